import PyProof.Rows.All
import Wide.All
import OpenK.AllK
import Wide.FinOn
import HandS.ForMost
import HandS.NoneIn
import HandS.Style
import HandS.IsInst
import HandS.Conv
import HandS.RevRange
import HandS.TupAny
import HandS.Flow
import HandS.SortRule
import KE.KEqSeq
import HandS.FStrTup
import PySem.Challenge.RW_duelsets_k04_all_sets_listed
set_option Elab.async false
set_option linter.all false
set_option maxRecDepth 100000
namespace DS
open PySem PySem.Spec PyProof.Rows L2
/-! the text by places -/
def topS (i : Nat) : Stmt := PySem.Challenge.pw_duelsets_k04_all_sets_listed.main.body.getD i (.Pass ⟨0, 0, 0, 0⟩)
abbrev sDeck : Stmt := topS 3
abbrev sNext : Stmt := topS 4
theorem scNext : FnScope ["_law_deck_here", "_law_many", "_law_cells", "_law_rests", "_law_count", "_law_index", "_law_digit", "_law_mixed_here"] ["_law_deck_here", "_law_many"] (defScope sNext) := ⟨rfl, rfl, rfl, by decide +kernel, rfl, by decide +kernel, by decide +kernel⟩
/-! ### the deck -/
/-- the deck at d: cells at c, rests at r, at most n draws so far -/
structure Deck (H : Hp) (d c r : Addr) (n : Nat) : Prop where
  ex : ∃ (cs rs : List Int) (k : Nat), H d = some (.lst [.ref c, .ref r, .int k]) ∧ H c = some (.lst (cs.map V.int)) ∧ H r = some (.lst (rs.map V.int)) ∧
    cs.length = rs.length ∧ 0 < cs.length ∧ cs.length ≤ 61 ∧ k ≤ n
  dc : d ≠ c
  dr : d ≠ r
  cr : c ≠ r
/-- all but the deck's own two objects that change stays -/
def Frm (d r : Addr) (H H' : Hp) : Prop := ∀ b x, H b = some x → b ≠ d → b ≠ r → H' b = some x
theorem Frm.refl {d r : Addr} {H : Hp} : Frm d r H H := fun _ _ e _ _ => e
theorem Frm.trans {d r : Addr} {H H1 H2 : Hp} (h : Frm d r H H1) (k : Frm d r H1 H2) : Frm d r H H2 := fun b x e h1 h2 => k b x (h b x e h1 h2) h1 h2
theorem Frm.of_same {d r : Addr} {H H1 : Hp} (h : Same H H1) : Frm d r H H1 := fun b x e _ _ => h b x e
theorem pos1 : (0 : Int) < 2305843009213693951 := by decide
theorem pos2 : (0 : Int) < 2305843009213693921 := by decide
theorem ixN_of {n j : Nat} (hj : j < n) : ixN n (j : Int) = some j := by
  unfold ixN
  rw [if_pos (by omega), if_pos (by omega)]
  simp
section
variable {P : Program} {w : World} {K : PySem.W.Frag} {mg : Str → Option Value} {base : Heap}
def spNext : Sp := fun vs H Q _ => ∃ (d c r : Addr) (n : Nat) (m : Int), vs = [.ref d, .int m] ∧ Deck H d c r n ∧ n < 2 ^ 40 ∧ 0 < m ∧ m < 1000000 ∧
  ∀ (H' : Hp) (k : Int), 0 ≤ k → k < m → Deck H' d c r (n + 1) → Frm d r H H' → Q (.int k) H'
theorem ok_next {f : Addr} {fd : FuncData} {k : Nat} (F : Fun K "_law_next" "_law_next" sNext f fd) (ml : mg "len" = none) : FnOk P w K mg base CX0 (k + 1) f fd ["_law_deck_here", "_law_many"] spNext := by
  refine F.ok scNext (fun vs H Q E h => ?_) (fun cdv A outer s H vs Q E hr h => ?_)
  · obtain ⟨d, c, r, n, m, rfl, _⟩ := h
    rfl
  · obtain ⟨d, c, r, n, m, rfl, ⟨⟨cs, rs, k, hd, hc, hR, hl, hp, hz, hk⟩, dc, dr, cr⟩, hn, m0, m1, q⟩ := h
    have nd := scNext.nd
    refine ⟨_, pss_cons (ps_asg (pv 0) (pg_unl rfl (pgs_cons (pg_name (i := 2) nd rfl (.inl rfl)) (pgs_cons (pg_name (i := 3) nd rfl (.inl rfl)) (pgs_cons (pg_name (i := 4) nd rfl (.inl rfl)) pgs_nil)))))
      (pss_cons (ps_asg (pe_op op_add (pv 4) pe_int) (pg_sub (pv 0) pe_int set_list))
      (pss_cons (ps_set (i := 5) nd rfl (.inl rfl) (pe_op op_mod (pv 4) (pe_callB call_len_seq (by rfl) ml PySem.boot_len (pa_cons (pv 2) pa_nil))))
      (pss_cons (ps_if (pt_cmpR op_gt (pe_ix ix_list (pv 3) (pv 5) (fun _ _ => rfl)) pe_int (nomark _))
        (pss_cons (ps_set (i := 6) nd rfl (.inl rfl) (pe_op op_mod (pe_ix ix_list (pv 3) (pv 5) (fun _ _ => rfl)) (pv 1)))
        (pss_cons (ps_asg (pe_op op_fdiv (pe_ix ix_list (pv 3) (pv 5) (fun _ _ => rfl)) (pv 1)) (pg_sub (pv 3) (pv 5) set_list))
        (pss_one (ps_ret (pv 6))))) pss_nil)
      (pss_cons (ps_set (i := 7) nd rfl (.inl rfl) (pe_op op_mul (pe_op op_add (pe_op op_add (pe_ix ix_list (pv 2) (pv 5) (fun _ _ => rfl)) (pe_op op_mul pe_int (pv 4))) pe_int) (pe_op op_add pe_int (pe_op op_mul pe_int (pv 4)))))
      (pss_cons (ps_set (i := 7) nd rfl (.inl rfl) (pe_op op_mod (pe_op op_add (pv 7) (pe_op op_mul pe_int (pv 4))) pe_int))
      (pss_cons (ps_set (i := 7) nd rfl (.inl rfl) (pe_op op_mod (pe_op op_add (pe_op op_mul (pv 7) (pv 7)) pe_int) pe_int))
      (pss_cons (ps_set (i := 7) nd rfl (.inl rfl) (pe_op op_mod (pe_op op_mul (pv 7) (pv 7)) pe_int))
      (pss_one (ps_ret (pe_op op_mod (pe_op op_fdiv (pv 7) pe_int) (pv 1))))))))))), ?_⟩
    refine ⟨.ref d, rfl, d, _, rfl, .inl (.inl hd), rfl, .ref c, _, rfl, .ref r, _, rfl, .int k, _, rfl, rfl, ?_⟩
    have hc1 : (upd H d (.lst [.ref c, .ref r, .int ((k : Int) + 1)])) c = some (.lst (cs.map V.int)) := by
      rw [upd_ne dc.symm]
      exact hc
    have hr1 : (upd H d (.lst [.ref c, .ref r, .int ((k : Int) + 1)])) r = some (.lst (rs.map V.int)) := by
      rw [upd_ne dr.symm]
      exact hR
    have hd1 : (upd H d (.lst [.ref c, .ref r, .int ((k : Int) + 1)])) d = some (.lst [.ref c, .ref r, .int ((k + 1 : Nat) : Int)]) := upd_same
    have fr1 : Frm d r H (upd H d (.lst [.ref c, .ref r, .int ((k : Int) + 1)])) := fun b x e h1 _ => by
      rw [upd_ne h1]
      exact e
    refine ⟨.int k, rfl, k, 1, rfl, rfl, .ref d, rfl, d, _, 2, 2, rfl, rfl, hd, rfl, ?_⟩
    show tSeq _ _ _ _ (upd H d (.lst [.ref c, .ref r, .int ((k : Int) + 1)]))
    generalize upd H d (.lst [.ref c, .ref r, .int ((k : Int) + 1)]) = H1 at hc1 hr1 hd1 fr1 ⊢
    have dk1 : Deck H1 d c r (n + 1) := ⟨⟨cs, rs, k + 1, hd1, hc1, hr1, hl, hp, hz, by omega⟩, dc, dr, cr⟩
    refine ⟨.int k, rfl, .ref c, rfl, c, _, rfl, .inl (.inl (.inl hc1)), k, _, rfl, rfl, by rw [List.length_map]; omega, ?_⟩
    obtain ⟨j, hj, ej⟩ : ∃ j : Nat, j < cs.length ∧ (k : Int) % ((cs.map V.int).length : Int) = (j : Int) := ⟨k % cs.length, Nat.mod_lt _ hp, by rw [List.length_map]; omega⟩
    have hj' : j < rs.length := by omega
    have gR : (rs.map V.int)[j]? = some (.int rs[j]) := by
      rw [List.getElem?_map, List.getElem?_eq_getElem hj']
      rfl
    have gC : (cs.map V.int)[j]? = some (.int cs[j]) := by
      rw [List.getElem?_map, List.getElem?_eq_getElem hj]
      rfl
    show tSeq _ _ _ (List.set _ 5 (some (.int ((k : Int) % ((cs.map V.int).length : Int))))) _
    rw [ej]
    refine ⟨.ref r, rfl, .int j, rfl, r, _, _, _, rfl, rfl, .inl (.inl hr1), atI_nat gR, _, _, rfl, rfl, _, rfl, ite2 (fun h => ?_) (fun h => ?_)⟩
    · -- a digit
      refine ⟨.ref r, rfl, .int j, rfl, r, _, _, _, rfl, rfl, .inl (.inl hr1), atI_nat gR, .int m, rfl, _, _, rfl, rfl, m0, ?_⟩
      refine ⟨.ref r, rfl, .int j, rfl, r, _, _, _, rfl, rfl, .inl (.inl hr1), atI_nat gR, .int m, rfl, _, _, rfl, rfl, ⟨m0, by omega⟩, ?_⟩
      refine ⟨.ref r, rfl, .int j, rfl, r, _, _, j, rfl, rfl, hr1, ixN_of (by rw [List.length_map]; exact hj'), ?_⟩
      refine ⟨_, rfl, q _ _ (Int.emod_nonneg _ (by omega)) (Int.emod_lt_of_pos _ m0) ?_ ?_⟩
      · refine ⟨⟨cs, rs.set j (rs[j] / m), k + 1, ?_, ?_, ?_, ?_, hp, hz, by omega⟩, dc, dr, cr⟩
        · rw [upd_ne dr]
          exact hd1
        · rw [upd_ne cr]
          exact hc1
        · rw [upd_same, List.map_set]
        · rw [List.length_set]
          exact hl
      · exact fr1.trans fun b x e _ h2 => by
          rw [upd_ne h2]
          exact e
    · -- a mixed number
      refine ⟨.ref c, rfl, .int j, rfl, c, _, _, _, rfl, rfl, .inl (.inl hc1), atI_nat gC, .int k, rfl, _, _, rfl, rfl, .inl ⟨by decide, by decide⟩, _, _, rfl, rfl, _, _, rfl, rfl, .int k, rfl, _, _, rfl, rfl, .inl ⟨by decide, by decide⟩, _, _, rfl, rfl, _, _, rfl, rfl, .inr ⟨by omega, by omega⟩, ?_⟩
      refine ⟨_, rfl, .int k, rfl, _, _, rfl, rfl, .inl ⟨by decide, by decide⟩, _, _, rfl, rfl, _, _, rfl, rfl, pos1, ?_⟩
      have b1 : ∀ x : Int, 0 ≤ x % 2305843009213693951 ∧ x % 2305843009213693951 < 2305843009213693951 := fun x => ⟨Int.emod_nonneg _ (by decide), Int.emod_lt_of_pos _ (by decide)⟩
      have b2 : ∀ x : Int, 0 ≤ x % 2305843009213693921 ∧ x % 2305843009213693921 < 2305843009213693921 := fun x => ⟨Int.emod_nonneg _ (by decide), Int.emod_lt_of_pos _ (by decide)⟩
      refine ⟨_, rfl, _, rfl, _, _, rfl, rfl, .inl ⟨?_, ?_⟩, _, _, rfl, rfl, _, _, rfl, rfl, pos2, ?_⟩
      · exact Int.lt_of_lt_of_le (by decide) (b1 _).1
      · exact Int.lt_trans (b1 _).2 (by decide)
      refine ⟨_, rfl, _, rfl, _, _, rfl, rfl, .inl ⟨?_, ?_⟩, _, _, rfl, rfl, pos1, ?_⟩
      · exact Int.lt_of_lt_of_le (by decide) (b2 _).1
      · exact Int.lt_trans (b2 _).2 (by decide)
      refine ⟨_, rfl, _, _, rfl, rfl, ⟨by decide, by decide⟩, .int m, rfl, _, _, rfl, rfl, m0, ?_⟩
      exact q _ _ (Int.emod_nonneg _ (by omega)) (Int.emod_lt_of_pos _ m0) dk1 fr1
end
end DS
namespace DS
open PySem PySem.Spec PyProof.Rows L2
abbrev nDeck : List Str := ["_law_script", "_law_cells", "_law_cell"]
theorem scDeck : FnScope nDeck ["_law_script"] (defScope sDeck) := ⟨rfl, rfl, rfl, by decide +kernel, rfl, by decide +kernel, by decide +kernel⟩
theorem same_new {H : Hp} {p : Addr} {o : HO} (h : H p = none) : Same H (upd H p o) := fun b x e => by
  rw [upd_ne (ne_of_none e h)]
  exact e
theorem same_over {H H1 : Hp} {p : Addr} {o : HO} (s : Same H H1) (h : H p = none) : Same H (upd H1 p o) := fun b x e => by
  rw [upd_ne (ne_of_none e h)]
  exact s b x e
def absI (i : Int) : Int := if i < 0 then -i else i
def bigI (i : Int) : Int := i * (if decide ((10 : Int) ^ (18 : Int).toNat ≤ i) = true then 1 else 0)
theorem take_snoc {α β : Type} {l : List α} {i : Nat} {x : α} (f : α → β) (h : l[i]? = some x) : (l.take (i + 1)).map f = (l.take i).map f ++ [f x] := by
  rw [List.take_add_one, h, List.map_append]
  rfl
theorem take_all_map {α β : Type} {l : List α} (f : α → β) : (l.take (l.map f).length).map f = l.map f := by
  rw [List.length_map, List.take_length]
theorem get_map {α β : Type} {l : List α} {f : α → β} {i : Nat} {y : β} (h : (l.map f)[i]? = some y) : ∃ x, l[i]? = some x ∧ y = f x := by
  rw [List.getElem?_map] at h
  cases e : l[i]? with
  | none => rw [e] at h; cases h
  | some x => rw [e] at h; cases h; exact ⟨x, rfl, rfl⟩
theorem line_lt {n : Nat} (h : n ≤ 100000) : n < sizeLine := Nat.lt_of_le_of_lt h (by decide)
section
variable {P : Program} {w : World} {K : PySem.W.Frag} {mg : Str → Option Value} {base : Heap}
def spDeck (K : PySem.W.Frag) : Sp := fun vs H Q _ => ∃ (a : Addr) (ns : List Int), vs = [.ref a] ∧ SqL K H a (ns.map V.int) ∧ ns.length ≤ 63 ∧
  ∀ (H' : Hp) (d c r : Addr), Same H H' → H d = none → H c = none → H r = none → Deck H' d c r 0 → Q (.ref d) H'
theorem ok_deck {f : Addr} {fd : FuncData} {k : Nat} (F : Fun K "_law_deck" "_law_deck" sDeck f fd) (ml : mg "len" = none) (ma : mg "abs" = none) (mi : mg "int" = none) : FnOk P w K mg base CX0 (k + 1) f fd ["_law_script"] (spDeck K) := by
  refine F.ok scDeck (fun vs H Q E h => ?_) (fun cdv A outer s H vs Q E hr h => ?_)
  · obtain ⟨a, ns, rfl, _⟩ := h
    rfl
  · obtain ⟨a, ns, rfl, ha, hn, q⟩ := h
    have nd := scDeck.nd
    refine ⟨_, pss_cons (ps_set (i := 1) nd rfl (.inl rfl) (pe_op op_cat
        (pe_lc (own := [("_law_cell", 2)]) (g := gName 2) (tt := tYes) rfl nd (pi_list (pe_slice sl_list (pv 0) po_none (po_some pe_int))) (blkOk_by (N := nDeck) (sc := defScope sDeck) (own := [("_law_cell", 2)]) (by decide +kernel))
          (fun _ _ _ _ _ => pg_name (i := 2) nd rfl (.inl rfl)) (fun _ _ _ _ _ => pts_nil) (fun _ _ _ _ _ => pe_callB call_abs (by rfl) ma (by decide +kernel) (pa_cons (pv 2) pa_nil)))
        (pe_op op_rep (pe_lst (pa_cons pe_int pa_nil)) (pe_callTy call_int1 (by rfl) mi (by decide +kernel) (pa_cons (pe_cmpR op_eq (pe_callB call_len_seq (by rfl) ml PySem.boot_len (pa_cons (pv 0) pa_nil)) pe_int (nomark _)) pa_nil)))))
      (pss_one (ps_ret (pe_lst (pa_cons (pv 1) (pa_cons
        (pe_lc (own := [("_law_cell", 2)]) (g := gName 2) (tt := tYes) rfl nd (pi_list (pv 1)) (blkOk_by (N := nDeck) (sc := defScope sDeck) (own := [("_law_cell", 2)]) (by decide +kernel))
          (fun _ _ _ _ _ => pg_name (i := 2) nd rfl (.inl rfl)) (fun _ _ _ _ _ => pts_nil) (fun _ _ _ _ _ => pe_op op_mul (pv 2) (pe_callTy call_int1 (by rfl) mi (by decide +kernel) (pa_cons (pe_cmpR op_ge (pv 2) (pe_op op_pow pe_int pe_int) (nomark _)) pa_nil))))
        (pa_cons pe_int pa_nil)))))), ?_⟩
    refine ⟨.ref a, rfl, 61, rfl, a, _, rfl, ha, fun p np => ?_⟩
    have ecut : cutV (ns.map V.int) none (some 61) = (ns.take 61).map V.int := by
      unfold cutV
      rw [HT.sIx_none, show HT.sIx (ns.map V.int).length (ns.map V.int).length (some 61) = min 61 (ns.map V.int).length from HT.sIx_nat _ _ 61]
      rw [List.drop_zero, Nat.sub_zero, ← List.take_eq_take_min, List.map_take]
    rw [ecut]
    have lcut : (ns.take 61).length ≤ 61 := by
      rw [List.length_take]
      omega
    generalize ens : ns.take 61 = xs at lcut ⊢
    have s1 : Same H (upd H p (.lst (xs.map V.int))) := same_new np
    refine ⟨p, rfl, ⟨_, SqL.of upd_same⟩, fun D nD => ?_⟩
    have nDp : D ≠ p := fun e => by
      rw [e, upd_same] at nD
      cases nD
    have nD0 : H D = none := s1.free nD
    refine lc_list (xs := xs.map V.int) (fun i H3 => H3 = upd (upd H p (.lst (xs.map V.int))) D (.lst ((xs.take i).map fun x => V.int (absI x)))) rfl
      (fun i H3 _ e => by rw [e]; exact SqL.of (by rw [upd_ne nDp.symm, upd_same])) (fun i x H3 hx e => ?_) (fun H3 e => ?_)
    · subst e
      obtain ⟨y, hy, rfl⟩ := get_map hx
      refine ⟨rfl, _, rfl, y, rfl, _, upd_same, line_lt (by rw [List.length_map, List.length_take]; omega), ?_⟩
      rw [upd_upd, take_snoc (fun x => V.int (absI x)) hy]
      rfl
    · subst e
      rw [List.length_map, List.take_length]
      have HD : (upd (upd H p (.lst (xs.map V.int))) D (.lst (xs.map fun x => V.int (absI x)))) D = some (.lst (xs.map fun x => V.int (absI x))) := upd_same
      have s2 : Same H (upd (upd H p (.lst (xs.map V.int))) D (.lst (xs.map fun x => V.int (absI x)))) := same_over s1 nD0
      generalize upd (upd H p (.lst (xs.map V.int))) D (.lst (xs.map fun x => V.int (absI x))) = H2 at HD s2 ⊢
      refine ⟨by decide, fun z nz => ?_⟩
      have s3 : Same H2 (upd H2 z (.lst [.int 0])) := same_new nz
      refine ⟨.ref a, rfl, a, _, rfl, .inl ((s2.trans s3).seq ha), rfl, .inr ⟨_, rfl, z, _, _, rfl, rfl, upd_same, ?_, ?_, ?_, fun y ny => ?_⟩⟩
      · split <;> decide
      · split <;> decide
      · refine Nat.le_trans ?_ (show 1 ≤ sizeLine by decide)
        show 1 * _ ≤ 1
        split <;> decide
      have erep : ∃ rp : List Int, (List.replicate (if decide (V.int ((ns.map V.int).length : Int) = V.int 0) = true then (1 : Int) else 0).toNat [V.int 0]).flatten = rp.map V.int ∧ rp.length ≤ 1 ∧ (ns = [] → rp.length = 1) ∧ (ns ≠ [] → rp.length = 0) := by
        by_cases e0 : ns = []
        · subst e0
          exact ⟨[0], rfl, Nat.le_refl _, fun _ => rfl, fun e => absurd rfl e⟩
        · have : ¬ (V.int ((ns.map V.int).length : Int) = V.int 0) := fun e => by
            have e1 := V.int.inj e
            rw [List.length_map] at e1
            exact e0 (List.length_eq_zero_iff.mp (by omega))
          rw [decide_eq_false this]
          exact ⟨[], rfl, Nat.zero_le _, fun e => absurd e e0, fun _ => rfl⟩
      obtain ⟨rp, erp, lrp, nrp, zrp⟩ := erep
      rw [erp]
      have nzH : H2 z = none := nz
      have nyz : y ≠ z := fun e => by
        rw [e, upd_same] at ny
        cases ny
      have HD3 : (upd (upd H2 z (.lst [.int 0])) y (.lst (rp.map V.int))) D = some (.lst (xs.map fun x => V.int (absI x))) := by
        rw [upd_ne (ne_of_none (s3 _ _ HD) ny)]
        exact s3 _ _ HD
      have s4 : Same H2 (upd (upd H2 z (.lst [.int 0])) y (.lst (rp.map V.int))) := s3.trans (same_new ny)
      refine ⟨D, y, _, _, rfl, rfl, HD3, upd_same, Nat.le_of_lt (line_lt (by rw [List.length_map, List.length_map]; omega)), fun c nc => ?_⟩
      generalize upd (upd H2 z (.lst [.int 0])) y (.lst (rp.map V.int)) = H3 at nc s4 HD3 ⊢
      have ecs : (xs.map fun x => V.int (absI x)) ++ rp.map V.int = (xs.map absI ++ rp).map V.int := by
        rw [List.map_append, List.map_map]
        rfl
      rw [ecs]
      have lcs : (xs.map absI ++ rp).length ≤ 61 ∧ 0 < (xs.map absI ++ rp).length := by
        rw [List.length_append, List.length_map, ← ens]
        rw [← ens] at lcut
        rw [List.length_take] at lcut ⊢
        by_cases e0 : ns = []
        · have := nrp e0
          subst e0
          simp only [List.length_nil]
          omega
        · have h0 : 0 < ns.length := List.length_pos_iff.mpr e0
          have := zrp e0
          omega
      generalize xs.map absI ++ rp = cs at lcs ⊢
      have nc0 : H c = none := s2.free (s4.free nc)
      have s5 : Same H (upd H3 c (.lst (cs.map V.int))) := same_over (s2.trans s4) nc0
      have hc5 : (upd H3 c (.lst (cs.map V.int))) c = some (.lst (cs.map V.int)) := upd_same
      generalize upd H3 c (.lst (cs.map V.int)) = H5 at s5 hc5 ⊢
      refine ⟨.ref c, rfl, .ref c, rfl, c, rfl, ⟨_, SqL.of hc5⟩, fun r nr => ?_⟩
      have ncr : c ≠ r := ne_of_none hc5 nr
      refine lc_list (xs := cs.map V.int) (fun i H6 => H6 = upd H5 r (.lst ((cs.take i).map fun x => V.int (bigI x)))) rfl
        (fun i H6 _ e => by rw [e]; exact SqL.of (by rw [upd_ne ncr, hc5])) (fun i x H6 hx e => ?_) (fun H6 e => ?_)
      · subst e
        obtain ⟨y, hy, rfl⟩ := get_map hx
        refine ⟨rfl, _, rfl, _, rfl, 10, 18, rfl, rfl, ⟨by decide, by decide, by decide⟩, _, _, rfl, rfl, .inr ⟨_, rfl, _, _, rfl, rfl, .inr ?_, _, upd_same, line_lt (by rw [List.length_map, List.length_take]; omega), ?_⟩⟩
        · split <;> exact ⟨by decide, by decide⟩
        rw [upd_upd, take_snoc (fun x => V.int (bigI x)) hy]
        rfl
      · subst e
        rw [List.length_map, List.take_length]
        have nr0 : H r = none := s5.free nr
        refine ⟨(show 3 ≤ sizeLine by decide), fun d nd0 => ?_⟩
        have ndr : r ≠ d := ne_of_none upd_same nd0
        have ndc : c ≠ d := ne_of_none (by rw [upd_ne ncr]; exact hc5) nd0
        have ndH : H d = none := (same_over s5 nr0).free nd0
        refine q _ d c r (same_over (same_over s5 nr0) ndH) ndH nc0 nr0 ⟨⟨cs, cs.map bigI, 0, upd_same, ?_, ?_, (List.length_map _).symm, lcs.2, lcs.1, Nat.le_refl _⟩, ndc.symm, ndr.symm, ncr⟩
        · rw [upd_ne ndc, upd_ne ncr]
          exact hc5
        · rw [upd_ne ndr, upd_same, List.map_map]
          rfl
end
end DS
namespace DS
open PySem PySem.Spec PyProof.Rows L2
abbrev sMixed : Stmt := topS 7
abbrev sWon : Stmt := topS 8
theorem scMixed : FnScope ["_law_deck_here", "_law_items", "_law_left", "_law_found"] ["_law_deck_here", "_law_items"] (defScope sMixed) := ⟨rfl, rfl, rfl, by decide +kernel, rfl, by decide +kernel, by decide +kernel⟩
theorem scWon : FnScope ["_law_deck_here", "_law_way", "_law_one_here", "_law_other"] ["_law_deck_here", "_law_way", "_law_one_here", "_law_other"] (defScope sWon) := ⟨rfl, rfl, rfl, by decide +kernel, rfl, by decide +kernel, by decide +kernel⟩
theorem Deck.same {H H1 : Hp} {d c r : Addr} {n : Nat} (D : Deck H d c r n) (s : Same H H1) : Deck H1 d c r n := by
  obtain ⟨⟨cs, rs, k, h1, h2, h3, h4⟩, a, b, e⟩ := D
  exact ⟨⟨cs, rs, k, s _ _ h1, s _ _ h2, s _ _ h3, h4⟩, a, b, e⟩
theorem Deck.upd {H : Hp} {d c r p : Addr} {n : Nat} {o : HO} (D : Deck H d c r n) (hd : p ≠ d) (hc : p ≠ c) (hr : p ≠ r) : Deck (upd H p o) d c r n := by
  obtain ⟨⟨cs, rs, k, h1, h2, h3, h4⟩, a, b, e⟩ := D
  exact ⟨⟨cs, rs, k, by rw [upd_ne hd.symm]; exact h1, by rw [upd_ne hc.symm]; exact h2, by rw [upd_ne hr.symm]; exact h3, h4⟩, a, b, e⟩
theorem Deck.mono {H : Hp} {d c r : Addr} {n m : Nat} (D : Deck H d c r n) (h : n ≤ m) : Deck H d c r m := by
  obtain ⟨⟨cs, rs, k, h1, h2, h3, h4, h5, h6, h7⟩, a, b, e⟩ := D
  exact ⟨⟨cs, rs, k, h1, h2, h3, h4, h5, h6, Nat.le_trans h7 h⟩, a, b, e⟩
theorem Deck.ned {H : Hp} {d c r p : Addr} {n : Nat} (D : Deck H d c r n) (h : H p = none) : p ≠ d := by
  obtain ⟨⟨cs, rs, k, h1, h2, h3, h4⟩, a, b, e⟩ := D
  exact (ne_of_none h1 h).symm
theorem Deck.nec {H : Hp} {d c r p : Addr} {n : Nat} (D : Deck H d c r n) (h : H p = none) : p ≠ c := by
  obtain ⟨⟨cs, rs, k, h1, h2, h3, h4⟩, a, b, e⟩ := D
  exact (ne_of_none h2 h).symm
theorem Deck.ner {H : Hp} {d c r p : Addr} {n : Nat} (D : Deck H d c r n) (h : H p = none) : p ≠ r := by
  obtain ⟨⟨cs, rs, k, h1, h2, h3, h4⟩, a, b, e⟩ := D
  exact (ne_of_none h3 h).symm
theorem Frm.over {d r p : Addr} {H H1 : Hp} {o : HO} (f : Frm d r H H1) (h : H p = none) : Frm d r H (upd H1 p o) := fun b x e h1 h2 => by
  rw [upd_ne (ne_of_none e h)]
  exact f b x e h1 h2
/-- an address that is new ahead is no part of what the deck's frame keeps, and stands where it is told -/
theorem Frm.get {d r p : Addr} {H H1 : Hp} {o : HO} (f : Frm d r H H1) (h : H p = some o) (h1 : p ≠ d) (h2 : p ≠ r) : H1 p = some o := f p o h h1 h2
section
variable {P : Program} {w : World} {K : PySem.W.Frag} {mg : Str → Option Value} {base : Heap}
def spWon : Sp := fun vs H Q _ => ∃ (d c r : Addr) (n : Nat) (y i j : Int), vs = [.ref d, .int y, .int i, .int j] ∧ Deck H d c r n ∧ n < 2 ^ 40 ∧
  ∀ (H' : Hp) (b : Bool), Deck H' d c r (n + 1) → Frm d r H H' → Q (.bl b) H'
theorem ok_won {f fN : Addr} {fd fdN : FuncData} {k : Nat} (F : Fun K "_law_won" "_law_won" sWon f fd) (FN : Fun K "_law_next" "_law_next" sNext fN fdN) (bN : Binds K fdN ["_law_deck_here", "_law_many"] []) (gN : mg "_law_next" = some (.ref fN)) (ml : mg "len" = none) :
    FnOk P w K mg base CX0 (k + 2) f fd ["_law_deck_here", "_law_way", "_law_one_here", "_law_other"] spWon := by
  have GN : FnOk P w K mg base CX0 (k + 1) fN fdN ["_law_deck_here", "_law_many"] spNext := ok_next FN ml
  refine F.ok scWon (fun vs H Q E h => ?_) (fun cdv A outer s H vs Q E hr h => ?_)
  · obtain ⟨d, c, r, n, y, i, j, rfl, _⟩ := h
    rfl
  · obtain ⟨d, c, r, n, y, i, j, rfl, D, hn, q⟩ := h
    have nd := scWon.nd
    refine ⟨_, pss_cons (ps_if (pt_cmpR op_eq (pv 1) pe_int (nomark _)) (pss_one (ps_ret (pe_cmpR op_eq (pe_call GN hr (by rfl) gN FN.kp bN .nil pass0 (pa_cons (pv 0) (pa_cons pe_int pa_nil))) pe_int (nomark _)))) pss_nil)
      (pss_cons (ps_if (pt_cmpR op_eq (pv 1) pe_int (nomark _)) (pss_one (ps_ret (pe_cmpR op_gt (pe_call GN hr (by rfl) gN FN.kp bN .nil pass0 (pa_cons (pv 0) (pa_cons pe_int pa_nil))) pe_int (nomark _)))) pss_nil)
      (pss_cons (ps_if (pt_cmpR op_eq (pv 1) pe_int (nomark _)) (pss_one (ps_ret (pe_cmpR op_eq (pe_op op_mod (pe_op op_sub (pv 3) (pv 2)) pe_int) pe_int (nomark _)))) pss_nil)
      (pss_cons (ps_if (pt_cmpR op_eq (pe_op op_fdiv (pv 2) pe_int) (pe_op op_fdiv (pv 3) pe_int) (nomark _)) (pss_one (ps_ret (pe_cmpR op_eq (pe_call GN hr (by rfl) gN FN.kp bN .nil pass0 (pa_cons (pv 0) (pa_cons pe_int pa_nil))) pe_int (nomark _)))) pss_nil)
      (pss_one (ps_ret (pe_cmpR op_eq (pe_op op_mod (pe_op op_sub (pe_op op_fdiv (pv 3) pe_int) (pe_op op_fdiv (pv 2) pe_int)) pe_int) pe_int (nomark _))))))), ?_⟩
    have two : (0 : Int) < 2 := by decide
    refine ⟨.int y, rfl, rfl, _, rfl, ite2 (fun _ => ?_) (fun _ => ?_)⟩
    · exact ⟨.ref d, rfl, d, c, r, n, 2, rfl, D, hn, by decide, by decide, fun H' k _ _ D' f => ⟨rfl, q _ _ D' f⟩⟩
    refine ⟨.int y, rfl, rfl, _, rfl, ite2 (fun _ => ?_) (fun _ => ?_)⟩
    · exact ⟨.ref d, rfl, d, c, r, n, 6, rfl, D, hn, by decide, by decide, fun H' k _ _ D' f => ⟨_, _, rfl, rfl, q _ _ D' f⟩⟩
    refine ⟨.int y, rfl, rfl, _, rfl, ite2 (fun _ => ?_) (fun _ => ?_)⟩
    · exact ⟨.int j, rfl, .int i, rfl, _, _, rfl, rfl, _, _, rfl, rfl, two, rfl, q _ _ (D.mono (Nat.le_succ _)) Frm.refl⟩
    refine ⟨.int i, rfl, _, _, rfl, rfl, ⟨by decide, by decide⟩, .int j, rfl, _, _, rfl, rfl, ⟨by decide, by decide⟩, rfl, _, rfl, ite2 (fun _ => ?_) (fun _ => ?_)⟩
    · exact ⟨.ref d, rfl, d, c, r, n, 2, rfl, D, hn, by decide, by decide, fun H' k _ _ D' f => ⟨rfl, q _ _ D' f⟩⟩
    exact ⟨.int j, rfl, _, _, rfl, rfl, ⟨by decide, by decide⟩, .int i, rfl, _, _, rfl, rfl, ⟨by decide, by decide⟩, _, _, rfl, rfl, _, _, rfl, rfl, two, rfl, q _ _ (D.mono (Nat.le_succ _)) Frm.refl⟩
end
end DS
namespace DS
open PySem PySem.Spec PyProof.Rows L2
theorem dp_ints {K : PySem.W.Frag} {H : Hp} : ∀ ns : List Int, DpAll K H (ns.map V.int) (ns.map PyData.int)
  | [] => .nil
  | n :: ns => .cons (.int n) (dp_ints ns)
theorem eqv_nil (ns : List Int) : PyData.eqv (.list (ns.map PyData.int)) (.list []) = decide (ns = []) := by
  cases ns with
  | nil => simp [PyData.eqv, PyData.eqvAll]
  | cons x r => simp [PyData.eqv, PyData.eqvAll]
theorem seqIx {n j : Nat} (h : j < n) : seqIndex? (j : Int) n = some j := by
  unfold seqIndex?
  simp
  omega
theorem erase_map {α β : Type} (f : α → β) : ∀ (l : List α) (j : Nat), (l.map f).eraseIdx j = (l.eraseIdx j).map f
  | [], _ => rfl
  | _ :: _, 0 => rfl
  | x :: l, j + 1 => by
    show f x :: (l.map f).eraseIdx j = f x :: (l.eraseIdx j).map f
    rw [erase_map f l j]
theorem erase_perm {α : Type} : ∀ (l : List α) (j : Nat) (h : j < l.length), (l[j] :: l.eraseIdx j).Perm l
  | [], j, h => absurd h (Nat.not_lt_zero _)
  | x :: l, 0, _ => List.Perm.refl _
  | x :: l, j + 1, h => by
    have ih := erase_perm l j (Nat.lt_of_succ_lt_succ h)
    exact (List.Perm.swap x (l[j]'(Nat.lt_of_succ_lt_succ h)) (l.eraseIdx j)).trans (List.Perm.cons x ih)
section
variable {P : Program} {w : World} {K : PySem.W.Frag} {mg : Str → Option Value} {base : Heap}
def spMixed (K : PySem.W.Frag) : Sp := fun vs H Q _ => ∃ (d c r l : Addr) (n : Nat) (xs : List Int), vs = [.ref d, .ref l] ∧ SqL K H l (xs.map V.int) ∧ xs.length ≤ 1000 ∧ Deck H d c r n ∧ n + 1000 < 2 ^ 40 ∧
  ∀ (H' : Hp) (p : Addr) (ys : List Int), ys.Perm xs → Deck H' d c r (n + xs.length) → Frm d r H H' → H p = none → H' p = some (.lst (ys.map V.int)) → Q (.ref p) H'
theorem ok_mixed {f fN : Addr} {fd fdN : FuncData} {k : Nat} (F : Fun K "_law_mixed" "_law_mixed" sMixed f fd) (FN : Fun K "_law_next" "_law_next" sNext fN fdN) (bN : Binds K fdN ["_law_deck_here", "_law_many"] []) (gN : mg "_law_next" = some (.ref fN)) (ml : mg "len" = none) (mls : mg "list" = none) :
    FnOk P w K mg base CX0 (k + 2) f fd ["_law_deck_here", "_law_items"] (spMixed K) := by
  have GN : FnOk P w K mg base CX0 (k + 1) fN fdN ["_law_deck_here", "_law_many"] spNext := ok_next FN ml
  refine F.ok scMixed (fun vs H Q E h => ?_) (fun cdv A outer s H vs Q E hr h => ?_)
  · obtain ⟨d, c, r, l, n, xs, rfl, _⟩ := h
    rfl
  · obtain ⟨d, c, r, l, n, xs, rfl, hl, hx, D, hn, q⟩ := h
    have nd := scMixed.nd
    refine ⟨_, pss_cons (ps_par (by rfl) nd (i := 2) (j := 3) rfl rfl (by decide) rfl rfl (pa_cons (pe_callTy call_list_of (by rfl) mls (by decide +kernel) (pa_cons (pv 1) pa_nil)) (pa_cons (pe_lst pa_nil) pa_nil)) (by rfl))
      (pss_cons (ps_while PassesOwn.never (pt_cmpR (op_neD hr.units) (pv 2) (pe_lst pa_nil) (nomark _))
        (pss_one (ps_expr (pe_bm PySem.F.plainAttrs_list PySem.F.slot_list_append PySem.F.type_list_append mt_append (pv 3) (pa_cons
          (pe_bm PySem.F.plainAttrs_list PySem.F.slot_list_pop PySem.F.type_list_pop mt_popAt (pv 2) (pa_cons
            (pe_call GN hr (by rfl) gN FN.kp bN .nil pass0 (pa_cons (pv 0) (pa_cons (pe_callB call_len_seq (by rfl) ml PySem.boot_len (pa_cons (pv 2) pa_nil)) pa_nil))) pa_nil)) pa_nil)))))
      (pss_one (ps_ret (pv 3)))), ?_⟩
    refine ⟨.ref l, rfl, l, _, rfl, .inl hl, fun L nL => ⟨Nat.zero_le _, fun G nG => ⟨_, _, rfl, ?_⟩⟩⟩
    have hL0 : (upd (upd H L (.lst (xs.map V.int))) G (.lst [])) L = some (.lst (xs.map V.int)) := by
      rw [upd_ne (ne_of_none upd_same nG), upd_same]
    have nLG : L ≠ G := ne_of_none upd_same nG
    have nG0 : H G = none := (same_new nL).free nG
    have D0 : Deck (upd (upd H L (.lst (xs.map V.int))) G (.lst [])) d c r n := D.same ((same_new nL).trans (same_new nG))
    have f0 : Frm d r H (upd (upd H L (.lst (xs.map V.int))) G (.lst [])) := (Frm.refl.over nL).over nG0
    have hG0 : (upd (upd H L (.lst (xs.map V.int))) G (.lst [])) G = some (.lst (([] : List Int).map V.int)) := upd_same
    generalize upd (upd H L (.lst (xs.map V.int))) G (.lst []) = H0 at hL0 D0 f0 hG0 ⊢
    refine ⟨fun m σ H' => ∃ ls fs : List Int, σ = [some (.ref d), some (.ref l), some (.ref L), some (.ref G)] ∧ m = ls.length ∧ H' L = some (.lst (ls.map V.int)) ∧ H' G = some (.lst (fs.map V.int)) ∧ (fs ++ ls).Perm xs ∧ Deck H' d c r (n + fs.length) ∧ Frm d r H H',
      ⟨xs.length, xs, [], rfl, rfl, hL0, hG0, List.Perm.refl _, D0, f0⟩, fun m σ H' hW => ?_⟩
    obtain ⟨ls, fs, rfl, rfl, hL, hG, hP, DD, ff⟩ := hW
    have hlen : fs.length + ls.length = xs.length := by
      rw [← hP.length_eq, List.length_append]
    refine ⟨.ref L, rfl, Nat.zero_le _, fun z nz => ?_⟩
    have sz : Same H' (upd H' z (.lst [])) := same_new nz
    refine ⟨.list (ls.map PyData.int), .list [], .lst (SqL.of (sz _ _ hL)) (dp_ints ls), .lst (SqL.of upd_same) .nil, PySem.W.ke_shaped_ints ls, PySem.W.ke_shaped_ints [], _, rfl, ?_⟩
    rw [eqv_nil]
    have DD1 := DD.same sz
    have hL1 := sz _ _ hL
    have hG1 := sz _ _ hG
    have ff1 : Frm d r H (upd H' z (.lst [])) := ff.trans (Frm.of_same sz)
    generalize upd H' z (.lst []) = H1 at DD1 hL1 hG1 ff1 ⊢
    have hLd := D.ned nL
    have hLr := D.ner nL
    have hLc := D.nec nL
    have hGd := D.ned nG0
    have hGr := D.ner nG0
    have hGc := D.nec nG0
    by_cases hls : ls = []
    · rw [decide_eq_true hls]
      refine iteF ?_
      subst hls
      rw [List.append_nil] at hP
      refine ⟨.ref G, rfl, q H1 G fs hP ?_ ff1 nG0 hG1⟩
      rw [← hP.length_eq]
      exact DD1
    · rw [decide_eq_false hls]
      refine iteT ?_
      have lp : 0 < ls.length := List.length_pos_iff.mpr hls
      refine ⟨fun σ' H2 => ∃ ls' fs' : List Int, σ' = [some (.ref d), some (.ref l), some (.ref L), some (.ref G)] ∧ ls'.length < ls.length ∧ H2 L = some (.lst (ls'.map V.int)) ∧ H2 G = some (.lst (fs'.map V.int)) ∧ (fs' ++ ls').Perm xs ∧ Deck H2 d c r (n + fs'.length) ∧ Frm d r H H2,
        fun σ' H2 ⟨ls', fs', e1, e2, e3⟩ => ⟨ls'.length, e2, ls', fs', e1, rfl, e3⟩, ?_⟩
      refine ⟨.ref G, rfl, .inl ⟨rfl, _, SqL.of hG1⟩, .ref L, rfl, .inl ⟨rfl, _, SqL.of hL1⟩, .ref d, rfl, .ref L, rfl, L, _, rfl, .inl (SqL.of hL1), d, c, r, n + fs.length, _, rfl, DD1, by omega, by rw [List.length_map]; omega, by rw [List.length_map]; omega, fun H2 kk k0 k1 D2 f2 => ?_⟩
      rw [List.length_map] at k1
      obtain ⟨j, rfl⟩ : ∃ j : Nat, kk = (j : Int) := ⟨kk.toNat, by omega⟩
      have hj : j < ls.length := by omega
      have hL2 : H2 L = some (.lst (ls.map V.int)) := f2.get hL1 hLd hLr
      have hG2 : H2 G = some (.lst (fs.map V.int)) := f2.get hG1 hGd hGr
      have gj : (ls.map V.int)[j]? = some (.int ls[j]) := by
        rw [List.getElem?_map, List.getElem?_eq_getElem hj]
        rfl
      refine ⟨L, _, _, j, _, rfl, rfl, hL2, by omega, by omega, seqIx (by rw [List.length_map]; exact hj), gj, G, _, _, rfl, rfl, by rw [upd_ne nLG.symm]; exact hG2, line_lt (by rw [List.length_map]; omega), ?_⟩
      refine ⟨ls.eraseIdx j, fs ++ [ls[j]], rfl, ?_, ?_, ?_, ?_, ?_, ?_⟩
      · rw [List.length_eraseIdx_of_lt hj]
        omega
      · rw [upd_ne nLG, upd_same, erase_map]
      · rw [upd_same, List.map_append]
        rfl
      · refine List.Perm.trans ?_ hP
        rw [List.append_assoc]
        exact List.Perm.append_left _ (erase_perm ls j hj)
      · rw [List.length_append]
        exact ((D2.upd hLd hLc hLr).upd hGd hGc hGr).mono (Nat.le_refl _)
      · exact ((ff1.trans f2).over nL).over nG0
end
end DS
namespace DS
open PySem PySem.Spec PyProof.Rows L2
def sgn (b : Nat → Nat → Bool) (i j : Nat) : Nat := if i = j then 46 else if b i j then 43 else 45
def Trn (n : Nat) (b : Nat → Nat → Bool) : Prop := ∀ i j, i < n → j < n → i ≠ j → b i j = !b j i
def rowS (n : Nat) (b : Nat → Nat → Bool) (i : Nat) : Str := ⟨((List.range n).map (sgn b i)).toArray⟩
def tabS (n : Nat) (b : Nat → Nat → Bool) : List Str := (List.range n).map (rowS n b)
theorem str_ext {x y : Str} (h : x.cps.toList = y.cps.toList) : x = y := by
  cases x with
  | mk a =>
    cases y with
    | mk b =>
      have e : a.toList = b.toList := h
      rw [Array.toList_inj.mp e]
/-- texts of one sign each, put together -/
theorem join_signs : ∀ cs : List Nat, Txt.join (Str.ofString "") (cs.map fun c => (⟨#[c]⟩ : Str)) = ⟨cs.toArray⟩ := by
  intro cs
  have e := join_plain_closes (Str.ofString "") (cs.map fun c => (⟨#[c]⟩ : Str))
  rw [eq_of_beq e]
  refine str_ext ?_
  show _ = cs
  induction cs with
  | nil => rfl
  | cons c r ih =>
    cases r with
    | nil => rfl
    | cons c2 r =>
      show ((⟨#[c]⟩ : Str) ++ Str.ofString "" ++ Str.join (Str.ofString "") ((c2 :: r).map fun c => (⟨#[c]⟩ : Str))).cps.toList = _
      have e2 := ih (join_plain_closes (Str.ofString "") ((c2 :: r).map fun c => (⟨#[c]⟩ : Str)))
      rw [Str.cps_append, Str.cps_append, Array.toList_append, Array.toList_append, e2]
      rfl
/-- a pair of places, drawn: one wins -/
def Dr (g : Nat → Nat → Nat) (i j : Nat) : Prop := (g i j = 43 ∧ g j i = 45) ∨ (g i j = 45 ∧ g j i = 43)
/-- the signs at their places, with the pairs ahead of (i0, j0) drawn -/
structure Sg (H : Hp) (S : Addr) (Rs : List Addr) (z : Nat) (g : Nat → Nat → Nat) : Prop where
  top : H S = some (.lst (Rs.map V.ref))
  len : Rs.length = z
  nod : Rs.Nodup
  row : ∀ i R, Rs[i]? = some R → H R = some (.lst ((List.range z).map fun j => V.str ⟨#[g i j]⟩))
theorem nodup_ix {Rs : List Addr} (h : Rs.Nodup) {i j : Nat} {R : Addr} (hi : Rs[i]? = some R) (hj : Rs[j]? = some R) : i = j := by
  obtain ⟨h1, e1⟩ := List.getElem?_eq_some_iff.mp hi
  obtain ⟨h2, e2⟩ := List.getElem?_eq_some_iff.mp hj
  rcases Nat.lt_trichotomy i j with x | x | x
  · exact absurd (e1.trans e2.symm) (List.pairwise_iff_getElem.mp h i j h1 h2 x)
  · exact x
  · exact absurd (e2.trans e1.symm) (List.pairwise_iff_getElem.mp h j i h2 h1 x)
def put (g : Nat → Nat → Nat) (i j v : Nat) : Nat → Nat → Nat := fun a b => if a = i ∧ b = j then v else g a b
theorem Sg.put {H : Hp} {S R : Addr} {Rs : List Addr} {z : Nat} {g : Nat → Nat → Nat} (h : Sg H S Rs z g) {i j v : Nat} (hi : Rs[i]? = some R) (hj : j < z) (hS : S ≠ R) :
    Sg (upd H R (.lst (((List.range z).map fun j => V.str ⟨#[g i j]⟩).set j (V.str ⟨#[v]⟩)))) S Rs z (put g i j v) := by
  refine ⟨by rw [upd_ne hS]; exact h.top, h.len, h.nod, fun a R' ha => ?_⟩
  by_cases e : a = i
  · subst e
    obtain rfl : R' = R := Option.some.inj (ha.symm.trans hi)
    rw [upd_same]
    congr 2
    apply List.ext_getElem?
    intro k
    rw [List.getElem?_set, List.getElem?_map, List.getElem?_map]
    by_cases ek : k < z
    · rw [List.getElem?_range ek]
      by_cases e2 : j = k
      · subst e2
        rw [if_pos rfl, List.length_map, List.length_range, if_pos hj]
        simp [DS.put]
      · rw [if_neg e2]
        have e3 : ¬ k = j := fun x => e2 x.symm
        simp [DS.put, e3]
    · have e4 : (List.range z)[k]? = none := List.getElem?_eq_none (by rw [List.length_range]; omega)
      rw [e4]
      by_cases e2 : j = k
      · omega
      · rw [if_neg e2]
        rfl
  · have hR : R' ≠ R := fun x => e (nodup_ix h.nod (x ▸ ha) hi)
    rw [upd_ne hR, h.row a R' ha]
    congr 2
    apply List.map_congr_left
    intro k _
    have e5 : ¬ (a = i ∧ k = j) := fun x => e x.1
    simp [DS.put, e5]
theorem rep_range {x : V} : ∀ n : Nat, (List.replicate n [x]).flatten = (List.range n).map fun _ => x
  | 0 => rfl
  | n + 1 => by
    rw [List.replicate_succ, List.flatten_cons, rep_range n, List.range_succ_eq_map, List.map_cons, List.map_map]
    rfl
end DS
namespace DS
open PySem PySem.Spec PyProof.Rows L2
abbrev sTable : Stmt := topS 9
abbrev nTable : List Str := ["_law_deck_here", "_law_most", "_law_size", "_law_way", "_law_one_here", "_law_signs", "_law_other", "_law_won_here", "_law_order"]
theorem scTable : FnScope nTable ["_law_deck_here", "_law_most"] (defScope sTable) := ⟨rfl, rfl, rfl, by decide +kernel, rfl, by decide +kernel, by decide +kernel⟩
theorem Frm.free {H H1 : Hp} {d c r p : Addr} {n m : Nat} (f : Frm d r H H1) (D : Deck H d c r n) (D1 : Deck H1 d c r m) (h : H1 p = none) : H p = none := by
  cases e : H p with
  | none => rfl
  | some x =>
    have := f p x e (D1.ned h) (D1.ner h)
    rw [h] at this
    cases this
/-- the reading of a row of the table that is put together -/
def teRow (K : PySem.W.Frag) : TE := tM1 (fun x xs H Q => ∃ a p, ∃ ys : List Str, x = .str a ∧ xs = [.ref p] ∧ (SqL K H p (ys.map V.str) ∨ SqT K H p (ys.map V.str)) ∧ (ys.map (·.length)).sum + ys.length * a.length ≤ 16777216 ∧ Q (.str (Txt.join a ys)) H)
  (tC (.str "")) (tLc (iList K (tVar 8)) (gName 6) tYes (tOp (rIxL K) (tOp (rIxL K) (tVar 5) (tVar 4)) (tVar 6)) [6])
section
variable {P : Program} {w : World} {K : PySem.W.Frag} {mg : Str → Option Value} {base : Heap}
def spTable : Sp := fun vs H Q _ => ∃ (d c r : Addr) (n m : Nat), vs = [.ref d, .int m] ∧ Deck H d c r n ∧ n + 2000 < 2 ^ 40 ∧ 1 ≤ m ∧ m ≤ 9 ∧
  ∀ (H' : Hp) (t : Addr) (z : Nat) (b : Nat → Nat → Bool), 1 ≤ z → z ≤ m → Trn z b → Deck H' d c r (n + 100) → Frm d r H H' → H t = none → H' t = some (.tup ((tabS z b).map V.str)) → Q (.ref t) H'
theorem ok_table {f fN fW fM : Addr} {fd fdN fdW fdM : FuncData} {k : Nat} (F : Fun K "_law_table" "_law_table" sTable f fd) (FN : Fun K "_law_next" "_law_next" sNext fN fdN) (bN : Binds K fdN ["_law_deck_here", "_law_many"] []) (gN : mg "_law_next" = some (.ref fN))
    (FW : Fun K "_law_won" "_law_won" sWon fW fdW) (bW : Binds K fdW ["_law_deck_here", "_law_way", "_law_one_here", "_law_other"] []) (gW : mg "_law_won" = some (.ref fW))
    (FM : Fun K "_law_mixed" "_law_mixed" sMixed fM fdM) (bM : Binds K fdM ["_law_deck_here", "_law_items"] []) (gM : mg "_law_mixed" = some (.ref fM))
    (ml : mg "len" = none) (mls : mg "list" = none) (mr : mg "range" = none) (mi : mg "int" = none) (mt : mg "tuple" = none) :
    FnOk P w K mg base CX0 (k + 3) f fd ["_law_deck_here", "_law_most"] spTable := by
  have GN : FnOk P w K mg base CX0 (k + 1) fN fdN ["_law_deck_here", "_law_many"] spNext := ok_next FN ml
  have GW : FnOk P w K mg base CX0 (k + 2) fW fdW ["_law_deck_here", "_law_way", "_law_one_here", "_law_other"] spWon := ok_won FW FN bN gN ml
  have GM : FnOk P w K mg base CX0 (k + 2) fM fdM ["_law_deck_here", "_law_items"] (spMixed K) := ok_mixed FM FN bN gN ml mls
  refine F.ok scTable (fun vs H Q E h => ?_) (fun cdv A outer s H vs Q E hr h => ?_)
  · obtain ⟨d, c, r, n, m, rfl, _⟩ := h
    rfl
  · obtain ⟨d, c, r, n, m, rfl, D, hn, m0, m1, q⟩ := h
    have nd := scTable.nd
    have hr1 := hr.mono (show k + 1 ≤ k + 2 by omega)
    refine ⟨_, pss_cons (ps_asg (pe_tup (pa_cons (pe_op op_add pe_int (pe_call GN hr1 (by rfl) gN FN.kp bN .nil pass0 (pa_cons (pv 0) (pa_cons (pv 1) pa_nil)))) (pa_cons (pe_call GN hr1 (by rfl) gN FN.kp bN .nil pass0 (pa_cons (pv 0) (pa_cons pe_int pa_nil))) pa_nil)))
        (pg_tup rfl (pgs_cons (pg_name (i := 2) nd rfl (.inr rfl)) (pgs_cons (pg_name (i := 3) nd rfl (.inl rfl)) pgs_nil))))
      (pss_cons (ps_set (i := 5) nd rfl (.inr rfl) (pe_lc (own := [("_law_one_here", 4)]) (g := gName 4) (tt := tYes) rfl nd (pi_range1 (by rfl) mr (pa_cons (pv 2) pa_nil)) (blkOk_by (by rfl))
          (fun _ _ _ _ _ => pg_name (i := 4) nd rfl (.inl rfl)) (fun _ _ _ _ _ => pts_nil) (fun _ _ _ _ _ => pe_op op_rep (pe_lst (pa_cons pe_str pa_nil)) (pv 2))))
      (pss_cons (ps_for PassesOwn.never rfl (pi_range1 (by rfl) mr (pa_cons (pv 2) pa_nil)) (pg_name (i := 4) nd rfl (.inl rfl))
        (pss_one (ps_for PassesOwn.never rfl (pi_range2 (by rfl) mr (pa_cons (pe_op op_add (pv 4) pe_int) (pa_cons (pv 2) pa_nil))) (pg_name (i := 6) nd rfl (.inl rfl))
          (pss_cons (ps_set (i := 7) nd rfl (.inl rfl) (pe_callTy call_int1 (by rfl) mi (by decide +kernel) (pa_cons (pe_call GW hr (by rfl) gW FW.kp bW .nil pass0 (pa_cons (pv 0) (pa_cons (pv 3) (pa_cons (pv 4) (pa_cons (pv 6) pa_nil))))) pa_nil)))
          (pss_cons (ps_asg (pe_ix ix_str pe_str (pv 7) (fun _ _ => rfl)) (pg_sub (pe_ix ix_list (pv 5) (pv 4) (fun _ _ => rfl)) (pv 6) set_list))
          (pss_one (ps_asg (pe_ix ix_str pe_str (pv 7) (fun _ _ => rfl)) (pg_sub (pe_ix ix_list (pv 5) (pv 6) (fun _ _ => rfl)) (pv 4) set_list))))))))
      (pss_cons (ps_set (i := 8) nd rfl (.inr rfl) (pe_call GM hr (by rfl) gM FM.kp bM .nil pass0 (pa_cons (pv 0) (pa_cons (pe_listRg rfl (by rfl) mls (prg_1 (by rfl) mr (pv 2))) pa_nil))))
      (pss_one (ps_ret (pe_callTy call_tuple_of (by rfl) mt (by decide +kernel) (pa_cons
        (pe_lc (own := [("_law_one_here", 4)]) (g := gName 4) (tt := tYes) (te := teRow K) rfl nd (pi_list (pv 8)) (blkOk_by (by rfl))
          (fun _ _ _ _ _ => pg_name (i := 4) nd rfl (.inr rfl)) (fun _ _ _ _ _ => pts_nil)
          (fun _ _ _ _ _ => pe_join pe_str (pe_lc (own := [("_law_other", 6)]) (g := gName 6) (tt := tYes) rfl nd (pi_list (pv 8)) (blkOk_by (by rfl))
            (fun _ _ _ _ _ => pg_name (i := 6) nd rfl (.inl rfl)) (fun _ _ _ _ _ => pts_nil) (fun _ _ _ _ _ => pe_ix ix_list (pe_ix ix_list (pv 5) (pv 4) (fun _ _ => rfl)) (pv 6) (fun _ _ => rfl))))) pa_nil))))))), ?_⟩
    refine ⟨.ref d, rfl, .int m, rfl, d, c, r, n, m, rfl, D, by omega, by omega, by omega, fun H1 k k0 k1 D1 f1 => ⟨_, _, rfl, rfl, ?_⟩⟩
    refine ⟨.ref d, rfl, d, c, r, n + 1, 4, rfl, D1, by omega, by decide, by decide, fun H2 y y0 y1 D2 f2 => ⟨(show 2 ≤ sizeLine by decide), fun T nT => ?_⟩⟩
    refine ⟨T, _, rfl, SqT.of upd_same, rfl, _, _, rfl, _, _, rfl, rfl, ?_⟩
    have f3 : Frm d r H (upd H2 T (.tup [.int (1 + k), .int y])) := (f1.trans f2).trans (Frm.of_same (same_new nT))
    have D3 : Deck (upd H2 T (.tup [.int (1 + k), .int y])) d c r (n + 2) := D2.same (same_new nT)
    generalize upd H2 T (.tup [.int (1 + k), .int y]) = H3 at f3 D3 ⊢
    obtain ⟨z, hz⟩ : ∃ z : Nat, 1 + k = (z : Int) := ⟨(1 + k).toNat, by omega⟩
    dsimp only
    rw [hz]
    have z0 : 1 ≤ z := by omega
    have z1 : z ≤ m := by omega
    have z9 : z ≤ 9 := by omega
    -- the signs, none drawn yet
    refine ⟨.int z, rfl, z, rfl, by omega, by omega, fun S nS => ?_⟩
    have Sd := D3.ned nS
    have Sr := D3.ner nS
    have Sc := D3.nec nS
    refine lc_range (lo := 0) (n := (z : Int).toNat) (fun i H' => ∃ Rs : List Addr, Rs.length = i ∧ Rs.Nodup ∧ (∀ R ∈ Rs, H3 R = none ∧ S ≠ R) ∧ H' S = some (.lst (Rs.map V.ref)) ∧
        (∀ R ∈ Rs, H' R = some (.lst ((List.range z).map fun _ => V.str ⟨#[46]⟩))) ∧ Same H3 H')
      ⟨[], rfl, List.Pairwise.nil, fun R h => absurd h List.not_mem_nil, upd_same, fun R h => absurd h List.not_mem_nil, same_new nS⟩ (fun i H' hi hP => ?_) (fun H' hP => ?_)
    · obtain ⟨Rs, e1, e2, e3, e4, e5, e6⟩ := hP
      refine ⟨rfl, (show 1 ≤ sizeLine by decide), fun p np => ⟨.int z, rfl, p, _, _, rfl, rfl, upd_same, by omega, by omega, ?_, fun R nR => ⟨Rs.map V.ref, ?_, line_lt (by rw [List.length_map]; omega), ?_⟩⟩⟩
      · show 1 * (z : Int).toNat ≤ sizeLine
        exact Nat.le_of_lt (line_lt (by omega))
      · rw [upd_ne (ne_of_none (same_new np _ _ e4) nR), upd_ne (ne_of_none e4 np)]
        exact e4
      · have nR' : H' R = none := (same_new np).free nR
        have SR : S ≠ R := ne_of_none e4 nR'
        refine ⟨Rs ++ [R], by rw [List.length_append, e1]; rfl, ?_, fun R' h => ?_, ?_, fun R' h => ?_, ?_⟩
        · refine List.nodup_append.mpr ⟨e2, List.nodup_cons.mpr ⟨List.not_mem_nil, List.Pairwise.nil⟩, fun a ha b hb => ?_⟩
          rw [List.mem_singleton.mp hb]
          exact ne_of_none (e5 a ha) nR'
        · rcases List.mem_append.mp h with h | h
          · exact e3 R' h
          · rw [List.mem_singleton.mp h]
            exact ⟨e6.free nR', SR⟩
        · rw [upd_same, List.map_append]
          rfl
        · rcases List.mem_append.mp h with h | h
          · rw [upd_ne (e3 R' h).2.symm, upd_ne (ne_of_none (e5 R' h) nR'), upd_ne (ne_of_none (e5 R' h) np)]
            exact e5 R' h
          · rw [List.mem_singleton.mp h, upd_ne SR.symm, upd_same, rep_range]
            rfl
        · exact same_over (same_over (same_over e6 (e6.free np)) (e6.free nR')) nS
    obtain ⟨Rs, e1, e2, e3, e4, e5, e6⟩ := hP
    have eR : Rs.length = z := by omega
    have sg0 : Sg H' S Rs z (fun _ _ => 46) := ⟨e4, eR, e2, fun i R h => e5 R (List.mem_of_getElem? h)⟩
    have nRd : ∀ R ∈ Rs, R ≠ d ∧ R ≠ c ∧ R ≠ r := fun R h => ⟨D3.ned (e3 R h).1, D3.nec (e3 R h).1, D3.ner (e3 R h).1⟩
    have D4 := D3.same e6
    have f4 : Frm d r H3 H' := Frm.of_same e6
    clear e4 e5 e6
    -- the duels
    have St : ∀ (y4 y6 y7 : Option V), [some (V.ref d), some (V.int m), some (V.int z), some (V.int y), y4, some (V.ref S), y6, y7, none] = [some (V.ref d), some (V.int m), some (V.int z), some (V.int y), y4, some (V.ref S), y6, y7, none] := fun _ _ _ => rfl
    refine ⟨.int z, rfl, z, rfl, by omega, by omega, ?_⟩
    refine for_range (lo := 0) (n := (z : Int).toNat) (fun i σ H4 => ∃ (y4 y6 y7 : Option V) (g : Nat → Nat → Nat), σ = [some (V.ref d), some (V.int m), some (V.int z), some (V.int y), y4, some (V.ref S), y6, y7, none] ∧
        Sg H4 S Rs z g ∧ (∀ a, a < z → g a a = 46) ∧ (∀ a b, a < i → a < b → b < z → Dr g a b) ∧ Deck H4 d c r (n + 2 + i * 9) ∧ Frm d r H3 H4)
      ⟨none, none, none, _, rfl, sg0, fun _ _ => rfl, fun a b h => absurd h (Nat.not_lt_zero _), D4.mono (by omega), f4⟩ (fun i σ H4 hi hP => ?_) (fun σ H4 hP => ?_)
    · obtain ⟨y4, y6, y7, g, rfl, sg, dg, dr, D5, f5⟩ := hP
      have iz : i < z := by omega
      refine ⟨_, rfl, _, _, rfl, rfl, .int z, rfl, _, _, rfl, ⟨by omega, by omega, by omega, by omega⟩, ?_⟩
      refine for_range (lo := 0 + (i : Int) + 1) (n := ((z : Int) - (0 + (i : Int) + 1)).toNat) (fun j σ H4 => ∃ (y6 y7 : Option V) (g : Nat → Nat → Nat), σ = [some (V.ref d), some (V.int m), some (V.int z), some (V.int y), some (V.int (0 + (i : Int))), some (V.ref S), y6, y7, none] ∧
          Sg H4 S Rs z g ∧ (∀ a, a < z → g a a = 46) ∧ (∀ a b, (a < i ∨ (a = i ∧ b < i + 1 + j)) → a < b → b < z → Dr g a b) ∧ Deck H4 d c r (n + 2 + i * 9 + j) ∧ Frm d r H3 H4)
        ⟨y6, y7, g, rfl, sg, dg, fun a b h h1 h2 => dr a b (by omega) h1 h2, D5, f5⟩ (fun j σ H5 hj hP => ?_) (fun σ H5 hP => ?_)
      · obtain ⟨y6, y7, g, rfl, sg, dg, dr, D5, f5⟩ := hP
        have jz : i + 1 + j < z := by omega
        have j9 : i < 9 ∧ j < 9 := by omega
        refine ⟨.ref d, rfl, .int y, rfl, _, rfl, _, rfl, d, c, r, n + 2 + i * 9 + j, y, _, _, rfl, D5, by omega, fun H6 b D6 f6 => .inr ⟨b, rfl, ?_⟩⟩
        obtain ⟨Ri, hRi⟩ : ∃ R, Rs[i]? = some R := ⟨Rs[i]'(by omega), List.getElem?_eq_getElem _⟩
        obtain ⟨Ro, hRo⟩ : ∃ R, Rs[i + 1 + j]? = some R := ⟨Rs[i + 1 + j]'(by omega), List.getElem?_eq_getElem _⟩
        have mi' := List.mem_of_getElem? hRi
        have mo' := List.mem_of_getElem? hRo
        have sg6 : Sg H6 S Rs z g := ⟨f6.get sg.top Sd Sr, sg.len, sg.nod, fun a R ha => f6.get (sg.row a R ha) (nRd R (List.mem_of_getElem? ha)).1 (nRd R (List.mem_of_getElem? ha)).2.2⟩
        have eo : (0 + (i : Int) + 1 + (j : Int)) = ((i + 1 + j : Nat) : Int) := by omega
        have ei : (0 + (i : Int)) = ((i : Nat) : Int) := by omega
        obtain ⟨v1, v2, c1, c2, hv⟩ : ∃ v1 v2 : Nat, atI (Str.ofString "-+").cps.toList (if b = true then (1 : Int) else 0) = some v1 ∧ atI (Str.ofString "+-").cps.toList (if b = true then (1 : Int) else 0) = some v2 ∧ ((v1 = 43 ∧ v2 = 45) ∨ (v1 = 45 ∧ v2 = 43)) := by
          cases b
          · exact ⟨45, 43, by decide +kernel, by decide +kernel, .inr ⟨rfl, rfl⟩⟩
          · exact ⟨43, 45, by decide +kernel, by decide +kernel, .inl ⟨rfl, rfl⟩⟩
        have gi : (Rs.map V.ref)[i]? = some (.ref Ri) := by
          rw [List.getElem?_map, hRi]
          rfl
        have go : (Rs.map V.ref)[i + 1 + j]? = some (.ref Ro) := by
          rw [List.getElem?_map, hRo]
          rfl
        have sg7 := sg6.put (v := v1) hRi jz (e3 Ri mi').2
        refine ⟨_, rfl, _, _, v1, rfl, rfl, by decide +kernel, c1, .ref S, rfl, _, rfl, S, _, _, .ref Ri, rfl, rfl, SqL.of sg6.top, by rw [ei]; exact atI_nat gi, _, rfl, Ri, _, _, i + 1 + j, rfl, rfl, sg6.row i Ri hRi, by rw [eo]; exact ixN_of (by rw [List.length_map, List.length_range]; exact jz), ?_⟩
        have D7 := D6.upd (o := .lst (((List.range z).map fun j => V.str ⟨#[g i j]⟩).set (i + 1 + j) (V.str ⟨#[v1]⟩))) (nRd Ri mi').1 (nRd Ri mi').2.1 (nRd Ri mi').2.2
        have f7 : Frm d r H3 (upd H6 Ri (.lst (((List.range z).map fun j => V.str ⟨#[g i j]⟩).set (i + 1 + j) (V.str ⟨#[v1]⟩)))) := (f5.trans f6).over (e3 Ri mi').1
        generalize upd H6 Ri (.lst (((List.range z).map fun j => V.str ⟨#[g i j]⟩).set (i + 1 + j) (V.str ⟨#[v1]⟩))) = H7 at sg7 D7 f7 ⊢
        have sg8 := sg7.put (v := v2) hRo iz (e3 Ro mo').2
        refine ⟨_, rfl, _, _, v2, rfl, rfl, by decide +kernel, c2, .ref S, rfl, _, rfl, S, _, _, .ref Ro, rfl, rfl, SqL.of sg7.top, by rw [eo]; exact atI_nat go, _, rfl, Ro, _, _, i, rfl, rfl, sg7.row _ Ro hRo, by rw [ei]; exact ixN_of (by rw [List.length_map, List.length_range]; exact iz), ?_⟩
        refine ⟨_, _, _, rfl, sg8, fun a ha => ?_, fun a b h h1 h2 => ?_, (D7.upd (nRd Ro mo').1 (nRd Ro mo').2.1 (nRd Ro mo').2.2).mono (Nat.le_refl _), f7.over (e3 Ro mo').1⟩
        · have n1 : ¬ (a = i + 1 + j ∧ a = i) := by omega
          have n2 : ¬ (a = i ∧ a = i + 1 + j) := by omega
          simp only [DS.put, n1, n2, if_false]
          exact dg a ha
        · by_cases hab : a = i ∧ b = i + 1 + j
          · obtain ⟨rfl, rfl⟩ := hab
            have n1 : ¬ (a = a + 1 + j ∧ a + 1 + j = a) := by omega
            have n2 : ¬ (a + 1 + j = a ∧ a = a + 1 + j) := by omega
            simp only [Dr, DS.put, n1, n2, if_false, and_self, if_true]
            exact hv
          · have n1 : ¬ (a = i + 1 + j ∧ b = i) := by omega
            have n2 : ¬ (b = i ∧ a = i + 1 + j) := by omega
            have n3 : ¬ (b = i + 1 + j ∧ a = i) := by omega
            simp only [Dr, DS.put, n1, n2, n3, hab, if_false]
            exact dr a b (by omega) h1 h2
      · obtain ⟨y6, y7, g, rfl, sg, dg, dr, D5, f5⟩ := hP
        exact ⟨_, y6, y7, g, rfl, sg, dg, fun a b h h1 h2 => dr a b (by omega) h1 h2, D5.mono (by omega), f5⟩
    obtain ⟨y4, y6, y7, g, rfl, sg, dg, dr, D5, f5⟩ := hP
    clear sg0 D4 f4 St
    -- the order
    have erg : rgV 0 (z : Int) = ((List.range z).map fun i : Nat => (i : Int)).map V.int := by
      unfold rgV
      rw [List.map_map, show ((z : Int) - 0).toNat = z by omega]
      apply List.map_congr_left
      intro i _
      show V.int (0 + (i : Int)) = V.int (i : Int)
      rw [Int.zero_add]
    refine ⟨.ref d, rfl, .int z, rfl, z, rfl, RgOk.of_le (by omega) (by omega) (by omega) (by omega), fun l nl => ?_⟩
    rw [erg]
    have s6 : Same H4 (upd H4 l (.lst (((List.range z).map fun i : Nat => (i : Int)).map V.int))) := same_new nl
    refine ⟨d, c, r, l, n + 2 + (z : Int).toNat * 9, (List.range z).map fun i : Nat => (i : Int), rfl, SqL.of upd_same, by rw [List.length_map, List.length_range]; omega, D5.same s6, by omega, fun H7 p ys hP D7 f7 np hp => ?_⟩
    have np4 : H4 p = none := s6.free np
    rw [List.length_map, List.length_range] at D7
    have f8 : Frm d r H4 H7 := (Frm.of_same s6).trans f7
    have sg8 : Sg H7 S Rs z g := ⟨f8.get sg.top Sd Sr, sg.len, sg.nod, fun a R ha => f8.get (sg.row a R ha) (nRd R (List.mem_of_getElem? ha)).1 (nRd R (List.mem_of_getElem? ha)).2.2⟩
    obtain ⟨us, hu, rfl⟩ : ∃ us : List Nat, us.Perm (List.range z) ∧ ys = us.map fun i : Nat => (i : Int) := by
      refine ⟨ys.map Int.toNat, ?_, ?_⟩
      · have e := hP.map Int.toNat
        rw [List.map_map] at e
        have e2 : (List.range z).map (Int.toNat ∘ fun i : Nat => (i : Int)) = List.range z := by
          conv => rhs; rw [← List.map_id (List.range z)]
          apply List.map_congr_left
          intro i _
          rfl
        rw [e2] at e
        exact e
      · rw [List.map_map]
        conv => lhs; rw [← List.map_id ys]
        apply List.map_congr_left
        intro y hy
        obtain ⟨i, _, rfl⟩ := List.mem_map.mp (hP.mem_iff.mp hy)
        rfl
    have ul : us.length = z := by rw [hu.length_eq, List.length_range]
    have und : us.Nodup := hu.nodup_iff.mpr List.nodup_range
    have uz : ∀ i u, us[i]? = some u → u < z := fun i u h => List.mem_range.mp (hu.mem_iff.mp (List.mem_of_getElem? h))
    rw [List.map_map] at hp
    -- the rows in this order
    refine ⟨.ref p, rfl, p, rfl, ⟨_, SqL.of hp⟩, fun B nB => ?_⟩
    refine lc_list (K := K) (a := p) (xs := us.map (V.int ∘ fun i : Nat => (i : Int))) (fun i H8 => Same H7 H8 ∧ H8 B = some (.lst ((us.take i).map fun a => V.str ⟨(us.map fun b => g a b).toArray⟩)))
      ⟨same_new nB, upd_same⟩ (fun i H8 _ h => h.1.seq (SqL.of hp)) (fun i x H8 hx h => ?_) (fun H8 h => ?_)
    · obtain ⟨s8, h8⟩ := h
      obtain ⟨a, ha, rfl⟩ := get_map hx
      have az := uz i a ha
      obtain ⟨Ra, hRa⟩ : ∃ R, Rs[a]? = some R := ⟨Rs[a]'(by have := sg8.len; omega), List.getElem?_eq_getElem _⟩
      have ga : (Rs.map V.ref)[a]? = some (.ref Ra) := by
        rw [List.getElem?_map, hRa]
        rfl
      refine ⟨rfl, ⟨_, rfl⟩, .ref p, rfl, p, rfl, ⟨_, s8.seq (SqL.of hp)⟩, fun C nC => ?_⟩
      refine lc_list (K := K) (a := p) (xs := us.map (V.int ∘ fun i : Nat => (i : Int))) (fun j H9 => Same H8 H9 ∧ H9 C = some (.lst ((us.take j).map fun b => V.str ⟨#[g a b]⟩)))
        ⟨same_new nC, upd_same⟩ (fun j H9 _ h => h.1.seq (s8.seq (SqL.of hp))) (fun j x H9 hx h => ?_) (fun H9 h => ?_)
      · obtain ⟨s9, h9⟩ := h
        obtain ⟨b, hb, rfl⟩ := get_map hx
        have bz := uz j b hb
        have gb : ((List.range z).map fun j => V.str ⟨#[g a j]⟩)[b]? = some (V.str ⟨#[g a b]⟩) := by
          rw [List.getElem?_map, List.getElem?_range bz]
          rfl
        refine ⟨rfl, .ref S, rfl, .int a, rfl, S, _, _, .ref Ra, rfl, rfl, (s8.trans s9).seq (SqL.of sg8.top), atI_nat ga, .int b, rfl, Ra, _, _, _, rfl, rfl, (s8.trans s9).seq (SqL.of (sg8.row a Ra hRa)), atI_nat gb, _, h9, line_lt (by rw [List.length_map, List.length_take]; omega), ?_⟩
        refine ⟨fun b' x e => ?_, ?_⟩
        · rw [upd_ne (ne_of_none e nC)]
          exact s9 b' x e
        · rw [upd_same, take_snoc (fun b => V.str ⟨#[g a b]⟩) hb]
      · obtain ⟨s9, h9⟩ := h
        rw [List.length_map, List.take_length] at h9
        have BC : B ≠ C := ne_of_none h8 nC
        have e9 : (us.map fun b => V.str ⟨#[g a b]⟩) = ((us.map fun b => g a b).map fun c => (⟨#[c]⟩ : Str)).map V.str := by
          rw [List.map_map, List.map_map]
          rfl
        rw [e9] at h9
        refine ⟨_, C, (us.map fun b => g a b).map fun c => (⟨#[c]⟩ : Str), rfl, rfl, .inl (SqL.of h9), ?_, _, s9 _ _ h8, line_lt (by rw [List.length_map, List.length_take]; omega), ?_⟩
        · have e10 : ∀ l : List Nat, ((l.map fun c => (⟨#[c]⟩ : Str)).map (·.length)).sum = l.length := by
            intro l
            induction l with
            | nil => rfl
            | cons c r ih =>
              rw [List.map_cons, List.map_cons, List.sum_cons, ih, List.length_cons]
              show 1 + r.length = r.length + 1
              omega
          rw [e10, List.length_map, List.length_map]
          show us.length + us.length * 0 ≤ 16777216
          omega
        · rw [join_signs]
          refine ⟨fun b' x e => ?_, ?_⟩
          · rw [upd_ne (ne_of_none e nB)]
            exact s9 _ _ (s8 b' x e)
          · rw [upd_same, take_snoc (fun a => V.str ⟨(us.map fun b => g a b).toArray⟩) ha]
    · obtain ⟨s8, h8⟩ := h
      rw [List.length_map, List.take_length] at h8
      refine ⟨B, _, rfl, .inl ⟨SqL.of h8, fun t nt => ?_⟩⟩
      have hg : ∀ i j a b, us[i]? = some a → us[j]? = some b → g a b = sgn (fun i j => g (us.getD i 0) (us.getD j 0) == 43) i j := fun i j a b hi hj => by
        have ei : us.getD i 0 = a := by rw [List.getD_eq_getElem?_getD, hi]; rfl
        have ej : us.getD j 0 = b := by rw [List.getD_eq_getElem?_getD, hj]; rfl
        show g a b = if i = j then 46 else if (g (us.getD i 0) (us.getD j 0) == 43) = true then 43 else 45
        rw [ei, ej]
        by_cases e : i = j
        · subst e
          obtain rfl : a = b := Option.some.inj (hi.symm.trans hj)
          rw [if_pos rfl]
          exact dg a (uz i a hi)
        · rw [if_neg e]
          have nab : a ≠ b := fun x => e (nodup_ix und hi (x ▸ hj))
          have az := uz i a hi
          have bz := uz j b hj
          rcases Nat.lt_or_gt_of_ne nab with x | x
          · rcases dr a b (by omega) x bz with ⟨h1, h2⟩ | ⟨h1, h2⟩ <;> rw [h1] <;> rfl
          · rcases dr b a (by omega) x az with ⟨h1, h2⟩ | ⟨h1, h2⟩ <;> rw [h2] <;> rfl
      refine q _ t z (fun i j => g (us.getD i 0) (us.getD j 0) == 43) z0 z1 (fun i j hi hj hij => ?_) ?_ ?_ ?_ ?_
      · have hi' : us[i]? = some us[i] := List.getElem?_eq_getElem (by omega)
        have hj' : us[j]? = some us[j] := List.getElem?_eq_getElem (by omega)
        have ei : us.getD i 0 = us[i] := by rw [List.getD_eq_getElem?_getD, hi']; rfl
        have ej : us.getD j 0 = us[j] := by rw [List.getD_eq_getElem?_getD, hj']; rfl
        show (g (us.getD i 0) (us.getD j 0) == 43) = !(g (us.getD j 0) (us.getD i 0) == 43)
        rw [ei, ej]
        have nab : us[i] ≠ us[j] := fun x => hij (nodup_ix und hi' (by rw [x]; exact hj'))
        have az := uz i _ hi'
        have bz := uz j _ hj'
        rcases Nat.lt_or_gt_of_ne nab with x | x
        · rcases dr _ _ (by omega) x bz with ⟨h1, h2⟩ | ⟨h1, h2⟩ <;> rw [h1, h2] <;> rfl
        · rcases dr _ _ (by omega) x az with ⟨h1, h2⟩ | ⟨h1, h2⟩ <;> rw [h1, h2] <;> rfl
      · exact ((D7.mono (by omega)).same s8).same (same_new nt)
      · exact ((f3.trans f5).trans f8).trans (Frm.of_same (s8.trans (same_new nt)))
      · exact ((f3.trans f5).trans f8).free D (D7.same (Same.refl _)) (s8.free nt)
      · rw [upd_same]
        congr 2
        refine List.ext_getElem? fun i => ?_
        unfold tabS
        rw [List.getElem?_map, List.getElem?_map, List.getElem?_map]
        by_cases hi : i < z
        · have hi' : us[i]? = some us[i] := List.getElem?_eq_getElem (by omega)
          rw [hi', List.getElem?_range hi]
          show some (V.str ⟨(us.map fun b => g us[i] b).toArray⟩) = some (V.str (rowS z _ i))
          congr 2
          unfold rowS
          congr 2
          refine List.ext_getElem? fun j => ?_
          rw [List.getElem?_map, List.getElem?_map]
          by_cases hj : j < z
          · have hj' : us[j]? = some us[j] := List.getElem?_eq_getElem (by omega)
            rw [hj', List.getElem?_range hj]
            show some (g us[i] us[j]) = some (sgn _ i j)
            rw [hg i j _ _ hi' hj']
          · rw [List.getElem?_eq_none (by omega), List.getElem?_eq_none (by rw [List.length_range]; omega)]
            rfl
        · rw [List.getElem?_eq_none (by omega), List.getElem?_eq_none (by rw [List.length_range]; omega)]
          rfl
end
end DS
namespace DS
open PySem PySem.Spec PyProof.Rows L2
abbrev sSame : Stmt := topS 6
abbrev nSame : List Str := ["_law_found", "_law_due", "_law_k"]
theorem scSame : FnScope nSame ["_law_found", "_law_due"] (defScope sSame) := ⟨rfl, rfl, rfl, by decide +kernel, rfl, by decide +kernel, by decide +kernel⟩
def tyD : PyData → String
  | .none => "NoneType"
  | .bool _ => "bool"
  | .int _ => "int"
  | .str _ => "str"
  | .list _ => "list"
  | .tuple _ => "tuple"
  | .dict _ => "dict"
theorem tyX_lst {K : PySem.W.Frag} {H : Hp} {a : Addr} {xs : List V} (h : SqL K H a xs) : TyX K H (.ref a) (.type "list") := by
  rcases h with (h | ⟨o, h⟩) | ⟨o, its, n, h, hc, _⟩
  · exact .base (.lst h)
  · exact .base (.frz h)
  · exact .kList h hc
theorem tyX_tup {K : PySem.W.Frag} {H : Hp} {a : Addr} {xs : List V} (h : SqT K H a xs) : TyX K H (.ref a) (.type "tuple") := by
  rcases h with (h | ⟨o, h⟩) | ⟨o, its, n, h, hc, _⟩
  · exact .base (.tup h)
  · exact .fTuple h
  · exact .kTuple h hc
theorem Dp.ty {K : PySem.W.Frag} {H : Hp} {x : V} {d : PyData} (h : Dp K H x d) : TyX K H x (.type (tyD d)) := by
  cases h with
  | non => exact .base .non
  | bl b => exact .base (.bl b)
  | int i => exact .base (.int i)
  | str y => exact .base (.str y)
  | lst h _ => exact tyX_lst h
  | tup h _ => exact tyX_tup h
theorem Same.seqT {K : PySem.W.Frag} {H H' : Hp} {a : Addr} {xs : List V} (e : Same H H') (h : SqT K H a xs) : SqT K H' a xs := by
  rcases h with (h | ⟨o, h⟩) | h
  · exact .inl (.inl (e _ _ h))
  · exact .inl (.inr ⟨o, e _ _ h⟩)
  · exact .inr h
mutual
theorem Dp.same {K : PySem.W.Frag} {H H' : Hp} (e : Same H H') : ∀ {x : V} {d : PyData}, Dp K H x d → Dp K H' x d
  | _, _, .non => .non
  | _, _, .bl b => .bl b
  | _, _, .int i => .int i
  | _, _, .str y => .str y
  | _, _, .lst h a => .lst (e.seq h) (DpAll.same e a)
  | _, _, .tup h a => .tup (Same.seqT e h) (DpAll.same e a)
theorem DpAll.same {K : PySem.W.Frag} {H H' : Hp} (e : Same H H') : ∀ {xs : List V} {ds : List PyData}, DpAll K H xs ds → DpAll K H' xs ds
  | _, _, .nil => .nil
  | _, _, .cons h a => .cons (Dp.same e h) (DpAll.same e a)
end
theorem DpAll.get {K : PySem.W.Frag} {H : Hp} : ∀ {xs : List V} {ds : List PyData} (_ : DpAll K H xs ds) (i : Nat) (d : PyData), ds[i]? = some d → ∃ x, xs[i]? = some x ∧ Dp K H x d
  | _, _, .nil, i, d, h => by simp at h
  | _, _, .cons h1 h2, 0, d, h => by
    cases h
    exact ⟨_, rfl, h1⟩
  | _, _, .cons h1 h2, i + 1, d, h => DpAll.get h2 i d h
theorem DpAll.len {K : PySem.W.Frag} {H : Hp} : ∀ {xs : List V} {ds : List PyData} (_ : DpAll K H xs ds), xs.length = ds.length
  | _, _, .nil => rfl
  | _, _, .cons _ h => by rw [List.length_cons, List.length_cons, DpAll.len h]
/-- how deep a value may be, and how long its parts -/
def Fits : Nat → PyData → Prop
  | _, .none => True
  | _, .bool _ => True
  | _, .int _ => True
  | _, .str _ => True
  | k + 1, .list ds => ds.length ≤ 100000 ∧ ∀ d ∈ ds, Fits k d
  | k + 1, .tuple ds => ds.length ≤ 100000 ∧ ∀ d ∈ ds, Fits k d
  | _, _ => False
theorem kit1 {K : PySem.W.Frag} {T C : String} {b : Bool} (h : kitB T C = some b) : PySem.W.kitOne K (.type T) (.type C) = some b := kit_ty h
theorem any_no {K : PySem.W.Frag} {T : String} (h1 : kitB T "list" = some false) (h2 : kitB T "tuple" = some false) : PySem.W.kitAny K (.type T) [.type "list", .type "tuple"] = some false :=
  kitAny_cons (kit_ty h1) (fun _ => kitAny_cons (kit_ty h2) (fun _ => kitAny_nil) (fun h => nomatch h)) (fun h => nomatch h)
theorem any_l {K : PySem.W.Frag} : PySem.W.kitAny K (.type "list") [.type "list", .type "tuple"] = some true :=
  kitAny_cons (b := true) (kit_ty (by decide +kernel)) (fun h => nomatch h) (fun _ => rfl)
theorem any_t {K : PySem.W.Frag} : PySem.W.kitAny K (.type "tuple") [.type "list", .type "tuple"] = some true :=
  kitAny_cons (b := false) (kit_ty (by decide +kernel)) (fun _ => kitAny_cons (b := true) (kit_ty (by decide +kernel)) (fun h => nomatch h) (fun _ => rfl)) (fun h => nomatch h)
/-- a list or a tuple to be read -/
def Sq (K : PySem.W.Frag) (H : Hp) (a : Addr) (xs : List V) : Prop := SqL K H a xs ∨ SqT K H a xs
theorem Sq.same {K : PySem.W.Frag} {H H' : Hp} {a : Addr} {xs : List V} (h : Sq K H a xs) (e : Same H H') : Sq K H' a xs := by
  rcases h with h | h
  · exact .inl (e.seq h)
  · exact .inr (Same.seqT e h)
theorem Sq.at {K : PySem.W.Frag} {H : Hp} {a : Addr} {xs : List V} {i : Nat} {v : V} {Q : VK} (h : Sq K H a xs) (hi : xs[i]? = some v) (q : Q v H) : rIx K (.ref a) (.int i) H Q := by
  rcases h with h | h
  · exact .inl ⟨a, xs, i, v, rfl, rfl, h, atI_nat hi, q⟩
  · exact .inr (.inl ⟨a, xs, i, v, rfl, rfl, h, atI_nat hi, q⟩)
section
variable {P : Program} {w : World} {K : PySem.W.Frag} {mg : Str → Option Value} {base : Heap}
def spSame (K : PySem.W.Frag) (k : Nat) : Sp := fun vs H Q _ => ∃ (x y : V) (d : PyData), vs = [x, y] ∧ Dp K H x d ∧ Dp K H y d ∧ Fits k d ∧ ∀ H', Same H H' → Q (.bl true) H'
/-- what the law's builtins are still -/
structure Blt (mg : Str → Option Value) : Prop where
  len : mg "len" = none
  isi : mg "isinstance" = none
  list : mg "list" = none
  tuple : mg "tuple" = none
  range : mg "range" = none
  str : mg "str" = none
  int : mg "int" = none
  bool : mg "bool" = none
def ttSame (K : PySem.W.Frag) (sp : Sp) : TT := tNot (tB (tCall sp [] E0 (tCons (tOp (rIx K) (tVar 0) (tVar 2)) (tCons (tOp (rIx K) (tVar 1) (tVar 2)) tNil))))
theorem step_same {f : Addr} {fd : FuncData} {k : Nat} {sp : Sp} (F : Fun K "_law_same" "_law_same" sSame f fd) (b : Binds K fd ["_law_found", "_law_due"] []) (g : mg "_law_same" = some (.ref f)) (T : Blt mg)
    (G : FnOk P w K mg base CX0 k f fd ["_law_found", "_law_due"] sp)
    (hsp : ∀ (x y : V) (d : PyData) (H : Hp) (Q : VK) (E : XK), Dp K H x d → Dp K H y d → (∃ j, k = j + 1 ∧ Fits j d) → (∀ H', Same H H' → Q (.bl true) H') → sp [x, y] H Q E) :
    FnOk P w K mg base CX0 (k + 1) f fd ["_law_found", "_law_due"] (spSame K k) := by
  refine F.ok scSame (fun vs H Q E h => ?_) (fun cdv A outer s H vs Q E hr h => ?_)
  · obtain ⟨x, y, d, rfl, _⟩ := h
    rfl
  · obtain ⟨x, y, d, rfl, hx, hy, hf, q⟩ := h
    have nd := scSame.nd
    refine ⟨_, pss_cons (ps_if (pt_val (pe_callB call_isiT (by rfl) T.isi (by decide +kernel) (pa_cons (pv 1) (pa_cons (pe_tup (pa_cons (pe_bltn (v := .ty "list") (by rfl) T.list (by decide +kernel) rfl) (pa_cons (pe_bltn (v := .ty "tuple") (by rfl) T.tuple (by decide +kernel) rfl) pa_nil))) pa_nil))))
        (pss_cons (ps_if (PW.pt (pw_or (pt_cmpR op_ne (pe_callB call_isi (by rfl) T.isi (by decide +kernel) (pa_cons (pv 0) (pa_cons (pe_bltn (v := .ty "list") (by rfl) T.list (by decide +kernel) rfl) pa_nil))) (pe_callB call_isi (by rfl) T.isi (by decide +kernel) (pa_cons (pv 1) (pa_cons (pe_bltn (v := .ty "list") (by rfl) T.list (by decide +kernel) rfl) pa_nil))) (nomark _))
            (pw_or1 (pt_cmpR op_ne (pe_callB call_isi (by rfl) T.isi (by decide +kernel) (pa_cons (pv 0) (pa_cons (pe_bltn (v := .ty "tuple") (by rfl) T.tuple (by decide +kernel) rfl) pa_nil))) (pe_callB call_isi (by rfl) T.isi (by decide +kernel) (pa_cons (pv 1) (pa_cons (pe_bltn (v := .ty "tuple") (by rfl) T.tuple (by decide +kernel) rfl) pa_nil))) (nomark _)))))
          (pss_one (ps_ret pe_bl)) pss_nil)
        (pss_cons (ps_if (pt_cmpR op_ne (pe_callB call_len_seq (by rfl) T.len PySem.boot_len (pa_cons (pv 0) pa_nil)) (pe_callB call_len_seq (by rfl) T.len PySem.boot_len (pa_cons (pv 1) pa_nil)) (nomark _)) (pss_one (ps_ret pe_bl)) pss_nil)
        (pss_one (ps_ret (pe_cmpR (op_eqD hr.units)
          (pe_lc (own := [("_law_k", 2)]) (g := gName 2) (tt := ttSame K sp) (te := tVar 2) rfl nd (pi_range1 (by rfl) T.range (pa_cons (pe_callB call_len_seq (by rfl) T.len PySem.boot_len (pa_cons (pv 1) pa_nil)) pa_nil)) (blkOk_by (by rfl))
            (fun _ _ _ _ _ => pg_name (i := 2) nd rfl (.inl rfl)) (fun _ _ _ _ _ => pts_one (pt_not (pt_val (pe_call G hr (by rfl) g F.kp b .nil pass0 (pa_cons (pe_ix ix_seq (pv 0) (pv 2) (fun _ _ => rfl)) (pa_cons (pe_ix ix_seq (pv 1) (pv 2) (fun _ _ => rfl)) pa_nil)))))) (fun _ _ _ _ _ => pv 2))
          (pe_lst pa_nil) (nomark _)))))) pss_nil)
      (pss_cons (ps_if (pt_cmpR op_isN (pv 1) pe_non (nomark _)) (pss_one (ps_ret (pe_cmpR op_isN (pv 0) pe_non (nomark _)))) pss_nil)
      (pss_cons (ps_if (pt_val (pe_callB call_isi (by rfl) T.isi (by decide +kernel) (pa_cons (pv 1) (pa_cons (pe_bltn (v := .ty "str") (by rfl) T.str (by decide +kernel) rfl) pa_nil))))
        (pss_one (ps_ret (pe_and (pe_callB call_isi (by rfl) T.isi (by decide +kernel) (pa_cons (pv 0) (pa_cons (pe_bltn (v := .ty "str") (by rfl) T.str (by decide +kernel) rfl) pa_nil))) (pe_one (pe_cmpR op_eq (pv 0) (pv 1) (nomark _)))))) pss_nil)
      (pss_one (ps_ret (pe_and (pe_callB call_isi (by rfl) T.isi (by decide +kernel) (pa_cons (pv 0) (pa_cons (pe_bltn (v := .ty "int") (by rfl) T.int (by decide +kernel) rfl) pa_nil)))
        (pe_and (pe_cmpR op_eq (pe_callB call_isi (by rfl) T.isi (by decide +kernel) (pa_cons (pv 0) (pa_cons (pe_bltn (v := .ty "bool") (by rfl) T.bool (by decide +kernel) rfl) pa_nil))) (pe_callB call_isi (by rfl) T.isi (by decide +kernel) (pa_cons (pv 1) (pa_cons (pe_bltn (v := .ty "bool") (by rfl) T.bool (by decide +kernel) rfl) pa_nil))) (nomark _))
        (pe_one (pe_cmpR op_eq (pv 0) (pv 1) (nomark _))))))))), ?_⟩
    have two : 2 ≤ sizeLine := by decide
    have pair : Paired ClsV [V.ty "list", V.ty "tuple"] [Value.type "list", Value.type "tuple"] := .cons (.ty _) (.cons (.ty _) .nil)
    -- lists and tuples, at one stroke
    have pack : (∃ (T : String) (b1 b2 : Bool) (a a' : Addr) (xs ys : List V) (ds : List PyData), x = .ref a ∧ y = .ref a' ∧ (∀ H', Same H H' → TyX K H' x (.type T) ∧ TyX K H' y (.type T)) ∧
        PySem.W.kitOne K (.type T) (.type "list") = some b1 ∧ PySem.W.kitOne K (.type T) (.type "tuple") = some b2 ∧ PySem.W.kitAny K (.type T) [.type "list", .type "tuple"] = some true ∧ Sq K H a xs ∧ Sq K H a' ys ∧ DpAll K H xs ds ∧ DpAll K H ys ds ∧ ds.length ≤ 100000 ∧
        (∀ d ∈ ds, ∃ j, k = j + 1 ∧ Fits j d)) ∨ (∀ ds, d ≠ .list ds ∧ d ≠ .tuple ds) := by
      cases d with
      | none => exact .inr fun _ => ⟨(fun h => nomatch h), (fun h => nomatch h)⟩
      | bool v => exact .inr fun _ => ⟨(fun h => nomatch h), (fun h => nomatch h)⟩
      | int v => exact .inr fun _ => ⟨(fun h => nomatch h), (fun h => nomatch h)⟩
      | str v => exact .inr fun _ => ⟨(fun h => nomatch h), (fun h => nomatch h)⟩
      | dict v => exact .inr fun _ => ⟨(fun h => nomatch h), (fun h => nomatch h)⟩
      | list ds =>
        cases hx with
        | @lst a xs _ h1 h2 =>
          cases hy with
          | @lst a' ys _ h3 h4 =>
            cases k with
            | zero => exact hf.elim
            | succ j => exact .inl ⟨"list", true, false, a, a', xs, ys, ds, rfl, rfl, fun H' e => ⟨tyX_lst (e.seq h1), tyX_lst (e.seq h3)⟩, kit1 (by decide +kernel), kit1 (by decide +kernel), any_l, .inl h1, .inl h3, h2, h4, hf.1, fun d hd => ⟨j, rfl, hf.2 d hd⟩⟩
      | tuple ds =>
        cases hx with
        | @tup a xs _ h1 h2 =>
          cases hy with
          | @tup a' ys _ h3 h4 =>
            cases k with
            | zero => exact hf.elim
            | succ j => exact .inl ⟨"tuple", false, true, a, a', xs, ys, ds, rfl, rfl, fun H' e => ⟨tyX_tup (Same.seqT e h1), tyX_tup (Same.seqT e h3)⟩, kit1 (by decide +kernel), kit1 (by decide +kernel), any_t, .inr h1, .inr h3, h2, h4, hf.1, fun d hd => ⟨j, rfl, hf.2 d hd⟩⟩
    rcases pack with ⟨T, b1, b2, a, a', xs, ys, ds, rfl, rfl, ty, k1, k2, k3, sx, sy, dx, dy, hl, hF⟩ | hno
    · refine ⟨_, rfl, two, fun tp ntp => ?_⟩
      have s1 : Same H (upd H tp (.tup [.ty "list", .ty "tuple"])) := same_new ntp
      refine ⟨_, tp, _, _, _, true, rfl, upd_same, pair, (ty _ s1).2, k3, _, rfl, iteT ?_⟩
      generalize upd H tp (.tup [.ty "list", .ty "tuple"]) = H1 at s1 ⊢
      have tx := (ty _ s1).1
      have t2 := (ty _ s1).2
      have sx1 := sx.same s1
      have sy1 := sy.same s1
      have dx1 := DpAll.same s1 dx
      have dy1 := DpAll.same s1 dy
      have nb : ∀ v : Bool, (!decide (V.bl v = V.bl v)) = false := fun v => by rw [decide_eq_true rfl]; rfl
      refine ⟨_, rfl, _, _, _, _, b1, rfl, .ty _, tx, k1, _, rfl, _, _, _, _, b1, rfl, .ty _, t2, k1, rfl, _, rfl, ?_⟩
      rw [nb]
      refine iteF ⟨_, rfl, _, _, _, _, b2, rfl, .ty _, tx, k2, _, rfl, _, _, _, _, b2, rfl, .ty _, t2, k2, rfl, _, rfl, ?_⟩
      rw [nb]
      refine iteF ⟨_, rfl, a, xs, rfl, sx1, _, rfl, a', ys, rfl, sy1, rfl, _, rfl, ?_⟩
      rw [DpAll.len dx1, DpAll.len dy1, decide_eq_true rfl]
      refine iteF ⟨_, rfl, a', ys, rfl, sy1, _, rfl, by omega, by have := DpAll.len dy1; omega, fun D nD => ?_⟩
      refine lc_range (lo := 0) (n := (ys.length : Int).toNat) (fun i H2 => Same H1 H2 ∧ H2 D = some (.lst [])) ⟨same_new nD, upd_same⟩ (fun i H2 hi h => ?_) (fun H2 h => ?_)
      · obtain ⟨s2, h2⟩ := h
        have il : i < ds.length := by have := DpAll.len dy1; omega
        obtain ⟨x', hx', px⟩ := DpAll.get (DpAll.same s2 dx1) i ds[i] (List.getElem?_eq_getElem il)
        obtain ⟨y', hy', py⟩ := DpAll.get (DpAll.same s2 dy1) i ds[i] (List.getElem?_eq_getElem il)
        have ei : (0 : Int) + (i : Int) = ((i : Nat) : Int) := by omega
        refine ⟨rfl, .ref a, rfl, _, rfl, ?_⟩
        rw [ei]
        refine (sx1.same s2).at hx' ⟨.ref a', rfl, .int (i : Int), by rw [← ei]; rfl, (sy1.same s2).at hy' ?_⟩
        refine hsp _ _ _ _ _ _ px py (hF _ (List.getElem_mem il)) fun H3 s3 => ⟨true, rfl, ?_⟩
        exact iteF ⟨s2.trans s3, s3 _ _ h2⟩
      · obtain ⟨s2, h2⟩ := h
        refine ⟨Nat.zero_le _, fun z nz => ?_⟩
        refine ⟨.list [], .list [], .lst (SqL.of (same_new nz _ _ h2)) .nil, .lst (SqL.of upd_same) .nil, PySem.W.ke_shaped_ints [], PySem.W.ke_shaped_ints [], ?_⟩
        have e : PyData.eqv (.list []) (.list []) = true := by
          simp [PyData.eqv, PyData.eqvAll]
        rw [e]
        exact q _ ((s1.trans s2).trans (same_new nz))
    cases d with
    | none =>
      cases hx
      cases hy
      refine ⟨_, rfl, two, fun tp ntp => ⟨_, tp, _, _, _, false, rfl, upd_same, pair, .base .non, any_no (by decide +kernel) (by decide +kernel), _, rfl, iteF ?_⟩⟩
      refine ⟨_, rfl, rfl, _, rfl, ite2 (fun _ => ⟨_, rfl, rfl, ?_⟩) (fun h => absurd (decide_eq_true rfl) h)⟩
      rw [decide_eq_true rfl]
      exact q _ (same_new ntp)
    | bool v =>
      cases hx
      cases hy
      refine ⟨_, rfl, two, fun tp ntp => ⟨_, tp, _, _, _, false, rfl, upd_same, pair, .base (.bl _), any_no (by decide +kernel) (by decide +kernel), _, rfl, iteF ?_⟩⟩
      refine ⟨_, rfl, rfl, _, rfl, ite2 (fun h => absurd (of_decide_eq_true h) (fun h => nomatch h)) (fun _ => ?_)⟩
      refine ⟨_, rfl, _, _, _, _, false, rfl, .ty _, .base (.bl _), kit1 (by decide +kernel), _, rfl, iteF ?_⟩
      refine ⟨_, rfl, _, _, _, _, true, rfl, .ty _, .base (.bl _), kit1 (by decide +kernel), _, rfl, iteT ?_⟩
      refine ⟨_, rfl, _, _, _, _, true, rfl, .ty _, .base (.bl _), kit1 (by decide +kernel), _, rfl, _, _, _, _, true, rfl, .ty _, .base (.bl _), kit1 (by decide +kernel), rfl, _, rfl, ite2 (fun _ => ⟨_, rfl, _, rfl, rfl, ?_⟩) (fun h => absurd (decide_eq_true rfl) h)⟩
      rw [decide_eq_true rfl]
      exact q _ (same_new ntp)
    | int v =>
      cases hx
      cases hy
      refine ⟨_, rfl, two, fun tp ntp => ⟨_, tp, _, _, _, false, rfl, upd_same, pair, .base (.int _), any_no (by decide +kernel) (by decide +kernel), _, rfl, iteF ?_⟩⟩
      refine ⟨_, rfl, rfl, _, rfl, ite2 (fun h => absurd (of_decide_eq_true h) (fun h => nomatch h)) (fun _ => ?_)⟩
      refine ⟨_, rfl, _, _, _, _, false, rfl, .ty _, .base (.int _), kit1 (by decide +kernel), _, rfl, iteF ?_⟩
      refine ⟨_, rfl, _, _, _, _, true, rfl, .ty _, .base (.int _), kit1 (by decide +kernel), _, rfl, iteT ?_⟩
      refine ⟨_, rfl, _, _, _, _, false, rfl, .ty _, .base (.int _), kit1 (by decide +kernel), _, rfl, _, _, _, _, false, rfl, .ty _, .base (.int _), kit1 (by decide +kernel), rfl, _, rfl, ite2 (fun _ => ⟨_, rfl, _, rfl, rfl, ?_⟩) (fun h => absurd (decide_eq_true rfl) h)⟩
      rw [decide_eq_true rfl]
      exact q _ (same_new ntp)
    | str v =>
      cases hx
      cases hy
      refine ⟨_, rfl, two, fun tp ntp => ⟨_, tp, _, _, _, false, rfl, upd_same, pair, .base (.str _), any_no (by decide +kernel) (by decide +kernel), _, rfl, iteF ?_⟩⟩
      refine ⟨_, rfl, rfl, _, rfl, ite2 (fun h => absurd (of_decide_eq_true h) (fun h => nomatch h)) (fun _ => ?_)⟩
      refine ⟨_, rfl, _, _, _, _, true, rfl, .ty _, .base (.str _), kit1 (by decide +kernel), _, rfl, iteT ?_⟩
      refine ⟨_, rfl, _, _, _, _, true, rfl, .ty _, .base (.str _), kit1 (by decide +kernel), _, rfl, iteT ⟨_, rfl, _, rfl, rfl, ?_⟩⟩
      rw [decide_eq_true rfl]
      exact q _ (same_new ntp)
    | list ds => exact absurd rfl (hno ds).1
    | tuple ds => exact absurd rfl (hno ds).2
    | dict _ => cases hx
end
end DS
namespace DS
open PySem PySem.Spec PyProof.Rows L2
section
variable {P : Program} {w : World} {K : PySem.W.Frag} {mg : Str → Option Value} {base : Heap}
theorem ok_same {f : Addr} {fd : FuncData} (F : Fun K "_law_same" "_law_same" sSame f fd) (b : Binds K fd ["_law_found", "_law_due"] []) (g : mg "_law_same" = some (.ref f)) (T : Blt mg) :
    ∀ k : Nat, FnOk P w K mg base CX0 (k + 1) f fd ["_law_found", "_law_due"] (spSame K k)
  | 0 => step_same (sp := fun _ _ _ _ => False) F b g T ⟨fun _ _ _ _ h => h.elim, fun _ _ _ _ _ _ _ _ _ _ _ _ _ h => h.elim⟩ (fun _ _ _ _ _ _ _ _ h _ => by
      obtain ⟨j, e, _⟩ := h
      omega)
  | k + 1 => step_same F b g T (ok_same F b g T k) (fun x y d H Q E hx hy h q => by
      obtain ⟨j, e, hf⟩ := h
      obtain rfl : j = k := by omega
      exact ⟨x, y, d, rfl, hx, hy, hf, q⟩)
end
end DS
namespace DS
open PySem
/-! ### the order of tuples of ints -/
theorem lex_irr : ∀ x : List Int, HT.lexLt x x = false
  | [] => rfl
  | a :: x => by rw [HT.lexLt_cons, if_pos rfl]; exact lex_irr x
theorem lex_asym : ∀ x y : List Int, HT.lexLt x y = true → HT.lexLt y x = false
  | [], [], _ => rfl
  | [], _ :: _, _ => rfl
  | _ :: _, [], h => by cases h
  | a :: x, b :: y, h => by
    rw [HT.lexLt_cons] at h ⊢
    by_cases e : a = b
    · rw [if_pos e] at h
      rw [if_pos e.symm]
      exact lex_asym x y h
    · rw [if_neg e] at h
      rw [if_neg (fun z => e z.symm)]
      have := of_decide_eq_true h
      exact decide_eq_false (by omega)
theorem lex_tr : ∀ x y z : List Int, HT.lexLt y x = false → HT.lexLt z y = false → HT.lexLt z x = false
  | [], _, [], _, _ => rfl
  | [], _, _ :: _, _, _ => rfl
  | _ :: _, [], _, h, _ => by cases h
  | _ :: _, _ :: _, [], _, h => by cases h
  | a :: x, b :: y, c :: z, h1, h2 => by
    rw [HT.lexLt_cons] at h1 h2 ⊢
    by_cases e1 : b = a
    · rw [if_pos e1] at h1
      by_cases e2 : c = b
      · rw [if_pos e2] at h2
        rw [if_pos (e2.trans e1)]
        exact lex_tr x y z h1 h2
      · rw [if_neg e2] at h2
        have h3 := of_decide_eq_false h2
        rw [if_neg (fun e => e2 (e.trans e1.symm))]
        exact decide_eq_false (by omega)
    · rw [if_neg e1] at h1
      have h4 := of_decide_eq_false h1
      by_cases e2 : c = b
      · rw [if_neg (fun e => e1 (e2.symm.trans e))]
        exact decide_eq_false (by omega)
      · rw [if_neg e2] at h2
        have h3 := of_decide_eq_false h2
        rw [if_neg (by omega)]
        exact decide_eq_false (by omega)
theorem lex_anti : ∀ x y : List Int, HT.lexLt x y = false → HT.lexLt y x = false → x = y
  | [], [], _, _ => rfl
  | [], _ :: _, h, _ => by cases h
  | _ :: _, [], _, h => by cases h
  | a :: x, b :: y, h1, h2 => by
    rw [HT.lexLt_cons] at h1 h2
    by_cases e : a = b
    · rw [if_pos e] at h1
      rw [if_pos e.symm] at h2
      rw [e, lex_anti x y h1 h2]
    · rw [if_neg e] at h1
      rw [if_neg (fun z => e z.symm)] at h2
      have h3 := of_decide_eq_false h1
      have h4 := of_decide_eq_false h2
      omega
/-- a sorted rearrangement is the only one -/
theorem sorted_one {α : Type} {R : α → α → Prop} (anti : ∀ x y, R x y → R y x → x = y) (refl : ∀ x, R x x) : ∀ {l m : List α}, l.Perm m → l.Pairwise R → m.Pairwise R → l = m
  | [], m, p, _, _ => (List.Perm.nil_eq p)
  | x :: l, [], p, _, _ => absurd p.length_eq (by simp)
  | x :: l, y :: m, p, hl, hm => by
    obtain ⟨h1, h2⟩ := List.pairwise_cons.mp hl
    obtain ⟨h3, h4⟩ := List.pairwise_cons.mp hm
    have hy : y = x ∨ y ∈ l := List.mem_cons.mp (p.mem_iff.mpr List.mem_cons_self)
    have hx : x = y ∨ x ∈ m := List.mem_cons.mp (p.mem_iff.mp List.mem_cons_self)
    have e : x = y := by
      rcases hy with e | hy
      · exact e.symm
      · rcases hx with e | hx
        · exact e
        · exact anti x y (h1 y hy) (h3 x hx)
    subst e
    rw [sorted_one anti refl p.cons_inv h2 h4]
/-! ### all sets of lo, .., lo + m - 1, in order -/
def As : Nat → Nat → List (List Int)
  | _, 0 => [[]]
  | lo, m + 1 => ([] :: (As (lo + 1) m).map fun s => (lo : Int) :: s) ++ (As (lo + 1) m).drop 1
theorem As_head : ∀ lo m : Nat, As lo m = [] :: (As lo m).drop 1
  | _, 0 => rfl
  | _, _ + 1 => rfl
theorem As_len : ∀ m lo : Nat, (As lo m).length = 2 ^ m
  | 0, _ => rfl
  | m + 1, lo => by
    have h := As_len m (lo + 1)
    have p : 0 < 2 ^ m := Nat.two_pow_pos m
    show ((([] : List Int) :: (As (lo + 1) m).map fun s => (lo : Int) :: s) ++ (As (lo + 1) m).drop 1).length = 2 ^ (m + 1)
    rw [List.length_append, List.length_cons, List.length_map, List.length_drop, h, Nat.pow_succ]
    omega
theorem As_ge : ∀ (m lo : Nat) (s : List Int), s ∈ As lo m → ∀ x ∈ s, (lo : Int) ≤ x
  | 0, _, s, h, x, hx => by
    rw [List.mem_singleton.mp h] at hx
    cases hx
  | m + 1, lo, s, h, x, hx => by
    have ih := As_ge m (lo + 1)
    rcases List.mem_append.mp h with h | h
    · rcases List.mem_cons.mp h with e | h
      · rw [e] at hx
        cases hx
      · obtain ⟨t, ht, rfl⟩ := List.mem_map.mp h
        rcases List.mem_cons.mp hx with e | hx
        · omega
        · have := ih t ht x hx
          omega
    · have := ih s (List.mem_of_mem_drop h) x hx
      omega
theorem As_mem_len : ∀ (m lo : Nat) (s : List Int), s ∈ As lo m → s.length ≤ m
  | 0, _, s, h => by
    rw [List.mem_singleton.mp h]
    exact Nat.le_refl _
  | m + 1, lo, s, h => by
    have ih := As_mem_len m (lo + 1)
    rcases List.mem_append.mp h with h | h
    · rcases List.mem_cons.mp h with e | h
      · rw [e]
        exact Nat.zero_le _
      · obtain ⟨t, ht, rfl⟩ := List.mem_map.mp h
        have := ih t ht
        rw [List.length_cons]
        omega
    · have := ih s (List.mem_of_mem_drop h)
      omega
theorem As_up : ∀ m lo : Nat, (As lo m).Pairwise fun x y => HT.lexLt x y = true
  | 0, _ => List.pairwise_singleton _ _
  | m + 1, lo => by
    have ih := As_up m (lo + 1)
    have ge := As_ge m (lo + 1)
    have ihd : ((As (lo + 1) m).drop 1).Pairwise fun x y => HT.lexLt x y = true := ih.sublist (List.drop_sublist _ _)
    have ne : ∀ y ∈ (As (lo + 1) m).drop 1, ∃ b r, y = b :: r ∧ ((lo : Int) + 1 ≤ b) := fun y hy => by
      have hh := ih
      rw [As_head] at hh
      have := (List.pairwise_cons.mp hh).1 y hy
      cases y with
      | nil => cases this
      | cons b r =>
        have g := ge _ (List.mem_of_mem_drop hy) b List.mem_cons_self
        exact ⟨b, r, rfl, by omega⟩
    refine List.pairwise_append.mpr ⟨List.pairwise_cons.mpr ⟨fun y hy => ?_, ?_⟩, ihd, fun x hx y hy => ?_⟩
    · obtain ⟨t, ht, rfl⟩ := List.mem_map.mp hy
      rfl
    · refine List.pairwise_map.mpr (ih.imp fun {a b} h => ?_)
      rw [HT.lexLt_cons, if_pos rfl]
      exact h
    · obtain ⟨b, r, rfl, hb⟩ := ne y hy
      rcases List.mem_cons.mp hx with e | hx
      · rw [e]
        rfl
      · obtain ⟨t, ht, rfl⟩ := List.mem_map.mp hx
        rw [HT.lexLt_cons, if_neg (by omega)]
        exact decide_eq_true (by omega)
/-! ### the sets from binary digits -/
def dg : Nat → Nat → Nat → List Int
  | _, 0, _ => []
  | lo, m + 1, x => (if x % 2 = 1 then [(lo : Int)] else []) ++ dg (lo + 1) m (x / 2)
theorem dg_snoc : ∀ (m lo x : Nat), dg lo (m + 1) x = dg lo m x ++ (if x / 2 ^ m % 2 = 1 then [((lo + m : Nat) : Int)] else [])
  | 0, lo, x => by
    show (if x % 2 = 1 then [(lo : Int)] else []) ++ [] = [] ++ (if x / 2 ^ 0 % 2 = 1 then [((lo + 0 : Nat) : Int)] else [])
    rw [List.append_nil, List.nil_append, Nat.pow_zero, Nat.div_one, Nat.add_zero]
  | m + 1, lo, x => by
    have ih := dg_snoc m (lo + 1) (x / 2)
    show (if x % 2 = 1 then [(lo : Int)] else []) ++ dg (lo + 1) (m + 1) (x / 2) = ((if x % 2 = 1 then [(lo : Int)] else []) ++ dg (lo + 1) m (x / 2)) ++ _
    rw [ih, List.append_assoc, Nat.div_div_eq_div_mul, show 2 * 2 ^ m = 2 ^ (m + 1) by rw [Nat.pow_succ]; omega, show lo + 1 + m = lo + (m + 1) by omega]
theorem dg_len : ∀ (m lo x : Nat), (dg lo m x).length ≤ m
  | 0, _, _ => Nat.le_refl _
  | m + 1, lo, x => by
    show ((if x % 2 = 1 then [(lo : Int)] else []) ++ dg (lo + 1) m (x / 2)).length ≤ m + 1
    have := dg_len m (lo + 1) (x / 2)
    rw [List.length_append]
    split <;> simp <;> omega
theorem range_two : ∀ k : Nat, (List.range (2 * k)).Perm ((List.range k).map (fun x => 2 * x + 1) ++ (List.range k).map (fun x => 2 * x))
  | 0 => List.Perm.refl _
  | k + 1 => by
    have ih := range_two k
    rw [show 2 * (k + 1) = 2 * k + 1 + 1 by omega, List.range_succ, List.range_succ, List.range_succ, List.map_append, List.map_append, List.map_singleton, List.map_singleton]
    refine ((ih.append_right [2 * k]).append_right [2 * k + 1]).trans ?_
    rw [List.append_assoc, List.append_assoc, List.append_assoc]
    refine List.Perm.append_left _ ?_
    rw [← List.append_assoc]
    exact List.perm_append_comm
theorem dg_perm : ∀ m lo : Nat, ((List.range (2 ^ m)).map (dg lo m)).Perm (As lo m)
  | 0, lo => List.Perm.refl _
  | m + 1, lo => by
    have ih := dg_perm m (lo + 1)
    rw [show 2 ^ (m + 1) = 2 * 2 ^ m by rw [Nat.pow_succ]; omega]
    refine ((range_two (2 ^ m)).map (dg lo (m + 1))).trans ?_
    rw [List.map_append, List.map_map, List.map_map]
    have e1 : (List.range (2 ^ m)).map (dg lo (m + 1) ∘ fun x => 2 * x + 1) = ((List.range (2 ^ m)).map (dg (lo + 1) m)).map fun s => (lo : Int) :: s := by
      rw [List.map_map]
      refine List.map_congr_left fun x _ => ?_
      show (if (2 * x + 1) % 2 = 1 then [(lo : Int)] else []) ++ dg (lo + 1) m ((2 * x + 1) / 2) = (lo : Int) :: dg (lo + 1) m x
      rw [if_pos (by omega), show (2 * x + 1) / 2 = x by omega]
      rfl
    have e2 : (List.range (2 ^ m)).map (dg lo (m + 1) ∘ fun x => 2 * x) = (List.range (2 ^ m)).map (dg (lo + 1) m) := by
      refine List.map_congr_left fun x _ => ?_
      show (if (2 * x) % 2 = 1 then [(lo : Int)] else []) ++ dg (lo + 1) m (2 * x / 2) = dg (lo + 1) m x
      rw [if_neg (by omega), show 2 * x / 2 = x by omega]
      rfl
    rw [e1, e2]
    refine ((ih.map _).append ih).trans ?_
    show ((As (lo + 1) m).map (fun s => (lo : Int) :: s) ++ As (lo + 1) m).Perm (([] :: (As (lo + 1) m).map fun s => (lo : Int) :: s) ++ (As (lo + 1) m).drop 1)
    have h : (As (lo + 1) m).map (fun s => (lo : Int) :: s) ++ As (lo + 1) m = (As (lo + 1) m).map (fun s => (lo : Int) :: s) ++ ([] :: (As (lo + 1) m).drop 1) := congrArg _ (As_head (lo + 1) m)
    rw [h]
    exact List.perm_middle
end DS
namespace DS
open PySem PySem.Spec PyProof.Rows L2
abbrev sAll : Stmt := topS 1
abbrev sDigits : Stmt := topS 10
abbrev nAll : List Str := ["table", "sets", "one", "rest"]
theorem scAll : FnScope nAll ["table"] (defScope sAll) := ⟨rfl, rfl, rfl, by decide +kernel, rfl, by decide +kernel, by decide +kernel⟩
theorem scDigits : FnScope ["_law_number", "_law_size", "_law_found", "_law_one_here"] ["_law_number", "_law_size"] (defScope sDigits) := ⟨rfl, rfl, rfl, by decide +kernel, rfl, by decide +kernel, by decide +kernel⟩
def tupD (s : List Int) : PyData := .tuple (s.map PyData.int)
/-- v is a tuple of the ints s -/
def TupI (K : PySem.W.Frag) (H : Hp) (v : V) (s : List Int) : Prop := ∃ a, v = .ref a ∧ SqT K H a (s.map V.int)
inductive AllT (K : PySem.W.Frag) (H : Hp) : List V → List (List Int) → Prop
  | nil : AllT K H [] []
  | cons {v : V} {vs : List V} {s : List Int} {ss : List (List Int)} : TupI K H v s → AllT K H vs ss → AllT K H (v :: vs) (s :: ss)
section
variable {K : PySem.W.Frag} {H H' : Hp}
theorem TupI.same {v : V} {s : List Int} (h : TupI K H v s) (e : Same H H') : TupI K H' v s := by
  obtain ⟨a, rfl, h⟩ := h
  exact ⟨a, rfl, Same.seqT e h⟩
theorem TupI.updL {v : V} {s : List Int} {D : Addr} {ws us : List V} (h : TupI K H v s) (hD : H D = some (.lst ws)) : TupI K (upd H D (.lst us)) v s := by
  obtain ⟨a, rfl, h⟩ := h
  refine ⟨a, rfl, ?_⟩
  rcases h with (h | ⟨o, h⟩) | h
  · exact .inl (.inl (by rw [upd_ne (ne_of h hD (by intro z; cases z))]; exact h))
  · exact .inl (.inr ⟨o, by rw [upd_ne (ne_of h hD (by intro z; cases z))]; exact h⟩)
  · exact .inr h
theorem TupI.dp {v : V} {s : List Int} (h : TupI K H v s) : Dp K H v (tupD s) := by
  obtain ⟨a, rfl, h⟩ := h
  exact .tup h (dp_ints s)
theorem AllT.same : ∀ {vs : List V} {ss : List (List Int)}, AllT K H vs ss → Same H H' → AllT K H' vs ss
  | _, _, .nil, _ => .nil
  | _, _, .cons h r, e => .cons (h.same e) (r.same e)
theorem AllT.updL {D : Addr} {ws us : List V} (hD : H D = some (.lst ws)) : ∀ {vs : List V} {ss : List (List Int)}, AllT K H vs ss → AllT K (upd H D (.lst us)) vs ss
  | _, _, .nil => .nil
  | _, _, .cons h r => .cons (h.updL hD) (AllT.updL hD r)
theorem AllT.dp : ∀ {vs : List V} {ss : List (List Int)}, AllT K H vs ss → DpAll K H vs (ss.map tupD)
  | _, _, .nil => .nil
  | _, _, .cons h r => .cons h.dp r.dp
theorem AllT.len : ∀ {vs : List V} {ss : List (List Int)}, AllT K H vs ss → vs.length = ss.length
  | _, _, .nil => rfl
  | _, _, .cons _ r => by rw [List.length_cons, List.length_cons, r.len]
theorem AllT.app : ∀ {vs us : List V} {ss ts : List (List Int)}, AllT K H vs ss → AllT K H us ts → AllT K H (vs ++ us) (ss ++ ts)
  | _, _, _, _, .nil, h => h
  | _, _, _, _, .cons h r, h2 => .cons h (r.app h2)
theorem AllT.drop1 : ∀ {vs : List V} {ss : List (List Int)}, AllT K H vs ss → AllT K H (vs.drop 1) (ss.drop 1)
  | _, _, .nil => .nil
  | _, _, .cons _ r => r
theorem AllT.get : ∀ {vs : List V} {ss : List (List Int)}, AllT K H vs ss → ∀ (i : Nat) (v : V), vs[i]? = some v → ∃ s, ss[i]? = some s ∧ TupI K H v s
  | _, _, .nil, i, v, h => by simp at h
  | _, _, .cons h r, 0, v, e => by
    cases e
    exact ⟨_, rfl, h⟩
  | _, _, .cons h r, i + 1, v, e => r.get i v e
end
theorem cut1 (xs : List V) : cutV xs (some 1) none = xs.drop 1 := by
  unfold cutV
  rw [show HT.sIx xs.length 0 (some 1) = min 1 xs.length from HT.sIx_nat xs.length 0 1, HT.sIx_none]
  cases xs with
  | nil => rfl
  | cons x r =>
    rw [show min 1 (x :: r).length = 1 by rw [List.length_cons]; omega]
    show (List.take ((x :: r).length - 1) r) = r
    rw [List.length_cons, Nat.add_sub_cancel]
    exact List.take_length
section
variable {P : Program} {w : World} {K : PySem.W.Frag} {mg : Str → Option Value} {base : Heap}
def spDigits : Sp := fun vs H Q _ => ∃ (x m : Nat), vs = [.int x, .int m] ∧ m ≤ 1000 ∧ ∀ (H' : Hp) (p : Addr), Same H H' → H' p = some (.tup ((dg 0 m x).map V.int)) → Q (.ref p) H'
theorem ok_digits {f : Addr} {fd : FuncData} {k : Nat} (F : Fun K "_law_digits" "_law_digits" sDigits f fd) (mr : mg "range" = none) (mt : mg "tuple" = none) : FnOk P w K mg base CX0 (k + 1) f fd ["_law_number", "_law_size"] spDigits := by
  refine F.ok scDigits (fun vs H Q E h => ?_) (fun cdv A outer s H vs Q E hr h => ?_)
  · obtain ⟨x, m, rfl, _⟩ := h
    rfl
  · obtain ⟨x, m, rfl, hm, q⟩ := h
    have nd := scDigits.nd
    refine ⟨_, pss_cons (ps_set (i := 2) nd rfl (.inl rfl) (pe_lst pa_nil))
      (pss_cons (ps_for PassesOwn.never rfl (pi_range1 (by rfl) mr (pa_cons (pv 1) pa_nil)) (pg_name (i := 3) nd rfl (.inl rfl))
        (pss_cons (ps_if (pt_cmpR op_eq (pe_op op_mod (pv 0) pe_int) pe_int (nomark _))
          (pss_one (ps_expr (pe_bm PySem.F.plainAttrs_list PySem.F.slot_list_append PySem.F.type_list_append mt_append (pv 2) (pa_cons (pv 3) pa_nil)))) pss_nil)
        (pss_one (ps_set (i := 0) nd rfl (.inl rfl) (pe_op op_fdiv (pv 0) pe_int)))))
      (pss_one (ps_ret (pe_callTy call_tuple_of (by rfl) mt (by decide +kernel) (pa_cons (pv 2) pa_nil))))), ?_⟩
    refine ⟨Nat.zero_le _, fun L nL => ?_⟩
    refine ⟨.int m, rfl, m, rfl, by omega, by omega, ?_⟩
    refine for_range (lo := 0) (n := (m : Int).toNat) (fun i σ H' => ∃ y3, σ = [some (V.int ((x / 2 ^ i : Nat) : Int)), some (V.int m), some (V.ref L), y3] ∧ H' = upd H L (.lst ((dg 0 i x).map V.int)))
      ⟨none, by rw [Nat.pow_zero, Nat.div_one]; rfl, rfl⟩ (fun i σ H' hi hP => ?_) (fun σ H' hP => ?_)
    · obtain ⟨y3, rfl, rfl⟩ := hP
      have two : (0 : Int) < 2 := by decide
      have li := dg_len i 0 x
      have e0 : ((0 : Int) + (i : Int)) = ((0 + i : Nat) : Int) := by omega
      have ed : ((x / 2 ^ i : Nat) : Int) / 2 = ((x / 2 ^ (i + 1) : Nat) : Int) := by
        rw [Nat.pow_succ, ← Nat.div_div_eq_div_mul]
        omega
      refine ⟨_, rfl, _, _, rfl, rfl, two, rfl, _, rfl, ite2 (fun h => ?_) (fun h => ?_)⟩
      · have h1 : x / 2 ^ i % 2 = 1 := by
          have := V.int.inj (of_decide_eq_true h)
          omega
        refine ⟨.ref L, rfl, .inl ⟨rfl, _, SqL.of upd_same⟩, _, rfl, L, _, _, rfl, rfl, upd_same, line_lt (by rw [List.length_map]; omega), ?_⟩
        refine ⟨_, rfl, _, _, rfl, rfl, ⟨by decide, by decide⟩, some (V.int (0 + (i : Int))), ?_, ?_⟩
        · show [some (V.int (((x / 2 ^ i : Nat) : Int) / 2)), _, _, _] = _
          rw [ed]
        · rw [upd_upd, dg_snoc, if_pos h1, List.map_append, e0]
          rfl
      · have h1 : ¬ x / 2 ^ i % 2 = 1 := fun e => h (decide_eq_true (by
          show V.int (((x / 2 ^ i : Nat) : Int) % 2) = V.int 1
          congr 1
          omega))
        refine ⟨_, rfl, _, _, rfl, rfl, ⟨by decide, by decide⟩, some (V.int (0 + (i : Int))), ?_, ?_⟩
        · show [some (V.int (((x / 2 ^ i : Nat) : Int) / 2)), _, _, _] = _
          rw [ed]
        · rw [dg_snoc, if_neg h1, List.append_nil]
    · obtain ⟨y3, rfl, rfl⟩ := hP
      refine ⟨.ref L, rfl, L, _, rfl, .inl ⟨SqL.of upd_same, fun p np => q _ p ((same_new nL).trans (same_new np)) ?_⟩⟩
      rw [upd_same]
      rfl
def teSets (K : PySem.W.Frag) : TE := tOp (rCatT K) (tTup (tCons (tVar 2) tNil)) (tVar 3)
def spAll (K : PySem.W.Frag) : Sp := fun vs H Q _ => ∃ (t : Addr) (xs : List V), vs = [.ref t] ∧ SqT K H t xs ∧ 1 ≤ xs.length ∧ xs.length ≤ 9 ∧ ∀ (H' : Hp) (p : Addr), Same H H' → Dp K H' (.ref p) (.tuple ((As 0 xs.length).map tupD)) → Q (.ref p) H'
theorem ok_all {f : Addr} {fd : FuncData} {k : Nat} (F : Fun K "all_sets" "all_sets" sAll f fd) (ml : mg "len" = none) (mr : mg "range" = none) (mt : mg "tuple" = none) (mv : mg "reversed" = none) : FnOk P w K mg base CX0 (k + 1) f fd ["table"] (spAll K) := by
  refine F.ok scAll (fun vs H Q E h => ?_) (fun cdv A outer s H vs Q E hr h => ?_)
  · obtain ⟨t, xs, rfl, _⟩ := h
    rfl
  · obtain ⟨t, xs, rfl, ht, l1, l9, q⟩ := h
    have nd := scAll.nd
    refine ⟨_, pss_cons (ps_set (i := 1) nd rfl (.inl rfl) (pe_lst (pa_cons (pe_tup pa_nil) pa_nil)))
      (pss_cons (ps_for PassesOwn.never rfl (pi_revR (by rfl) mv (prg_1 (by rfl) mr (pe_callB call_len_seq (by rfl) ml PySem.boot_len (pa_cons (pv 0) pa_nil)))) (pg_name (i := 2) nd rfl (.inr rfl))
        (pss_one (ps_set (i := 1) nd rfl (.inl rfl) (pe_op op_cat (pe_op op_cat (pe_lst (pa_cons (pe_tup pa_nil) pa_nil))
          (pe_lc (own := [("rest", 3)]) (g := gName 3) (tt := tYes) (te := teSets K) rfl nd (pi_list (pv 1)) (blkOk_by (by rfl))
            (fun _ _ _ _ _ => pg_name (i := 3) nd rfl (.inl rfl)) (fun _ _ _ _ _ => pts_nil) (fun _ _ _ _ _ => pe_op op_catT (pe_tup (pa_cons (pv 2) pa_nil)) (pv 3))))
          (pe_slice sl_list (pv 1) (po_some pe_int) po_none)))))
      (pss_one (ps_ret (pe_callTy call_tuple_of (by rfl) mt (by decide +kernel) (pa_cons (pv 1) pa_nil))))), ?_⟩
    refine ⟨Nat.zero_le _, fun e ne => ⟨(show 1 ≤ sizeLine by decide), fun L nL => ?_⟩⟩
    have s1 : Same H (upd (upd H e (.tup [])) L (.lst [.ref e])) := (same_new ne).trans (same_new nL)
    have hL : (upd (upd H e (.tup [])) L (.lst [.ref e])) L = some (.lst [.ref e]) := upd_same
    have he : (upd (upd H e (.tup [])) L (.lst [.ref e])) e = some (.tup []) := by
      rw [upd_ne (ne_of_none upd_same nL), upd_same]
    generalize upd (upd H e (.tup [])) L (.lst [.ref e]) = H1 at s1 hL he ⊢
    refine ⟨.ref t, rfl, t, _, rfl, .inr (Same.seqT s1 ht), _, rfl, by omega, by omega, by omega, by omega, ?_⟩
    refine for_rangeC (lo := 0 + ((((xs.length : Int) - 0).toNat : Nat) : Int) - 1) (c := -1) (n := ((xs.length : Int) - 0).toNat) (fun j σ H' => ∃ (y2 : Option V) (A : Addr) (vs : List V), σ = [some (.ref t), some (.ref A), y2, none] ∧ H' A = some (.lst vs) ∧ AllT K H' vs (As (xs.length - j) j) ∧ Same H H')
      ⟨none, L, _, rfl, hL, .cons ⟨e, rfl, SqT.of he⟩ .nil, s1⟩ (fun j σ H2 hj hP => ?_) (fun σ H2 hP => ?_)
    · obtain ⟨y2, A, vs, rfl, hA, aT, sm⟩ := hP
      obtain ⟨o, ho⟩ : ∃ o : Nat, o + 1 = xs.length - j := ⟨xs.length - j - 1, by omega⟩
      have eo : 0 + ((((xs.length : Int) - 0).toNat : Nat) : Int) - 1 + (j : Int) * -1 = (o : Int) := by omega
      have lv : vs.length = 2 ^ j := by rw [aT.len, As_len]
      have lp : 2 ^ j ≤ 2 ^ 9 := Nat.pow_le_pow_right (by decide) (by omega)
      rw [eo]
      rw [← ho] at aT
      refine ⟨Nat.zero_le _, fun e2 ne2 => ⟨(show 1 ≤ sizeLine by decide), fun B nB => ?_⟩⟩
      have s3 : Same H2 (upd (upd H2 e2 (.tup [])) B (.lst [.ref e2])) := (same_new ne2).trans (same_new nB)
      have hB : (upd (upd H2 e2 (.tup [])) B (.lst [.ref e2])) B = some (.lst [.ref e2]) := upd_same
      have he2 : (upd (upd H2 e2 (.tup [])) B (.lst [.ref e2])) e2 = some (.tup []) := by
        rw [upd_ne (ne_of_none upd_same nB), upd_same]
      generalize upd (upd H2 e2 (.tup [])) B (.lst [.ref e2]) = H3 at s3 hB he2 ⊢
      have hA3 := s3 _ _ hA
      have aT3 := aT.same s3
      refine ⟨.ref A, rfl, A, rfl, ⟨_, SqL.of hA3⟩, fun D nD => ?_⟩
      refine lc_list (K := K) (a := A) (xs := vs) (fun i H4 => Same H3 H4 ∧ ∃ ws, H4 D = some (.lst ws) ∧ AllT K H4 ws (((As (o + 1) j).take i).map fun s => (o : Int) :: s))
        ⟨same_new nD, [], upd_same, .nil⟩ (fun i H4 _ h => h.1.seq (SqL.of hA3)) (fun i x H4 hx h => ?_) (fun H4 h => ?_)
      · obtain ⟨s4, ws, hD, aW⟩ := h
        obtain ⟨s, hs, a, rfl, ha⟩ := (aT3.same s4).get i x hx
        have iv : i < vs.length := (List.getElem?_eq_some_iff.mp hx).1
        have lw : ws.length < sizeLine := line_lt (by
          rw [aW.len, List.length_map, List.length_take]
          omega)
        have ls : s.length ≤ j := As_mem_len j (o + 1) s (List.mem_of_getElem? hs)
        have step : ∀ (H5 : Hp) (y : V), Same H4 H5 → TupI K H5 y ((o : Int) :: s) → ∃ acc, H5 D = some (.lst acc) ∧ acc.length < sizeLine ∧ (Same H3 (upd H5 D (.lst (acc ++ [y]))) ∧ ∃ ws, (upd H5 D (.lst (acc ++ [y]))) D = some (.lst ws) ∧ AllT K (upd H5 D (.lst (acc ++ [y]))) ws (((As (o + 1) j).take (i + 1)).map fun s => (o : Int) :: s)) := fun H5 y s5 ty =>
          ⟨ws, s5 _ _ hD, lw, fun b x e => by rw [upd_ne (ne_of_none e nD)]; exact s5 _ _ (s4 b x e), _, upd_same, by
            rw [take_snoc (fun s => (o : Int) :: s) hs]
            exact ((aW.same s5).updL (s5 _ _ hD)).app (.cons (ty.updL (s5 _ _ hD)) .nil)⟩
        refine ⟨rfl, _, rfl, (show 1 ≤ sizeLine by decide), fun c nc => ⟨.ref a, rfl, c, a, _, _, rfl, rfl, SqT.of upd_same, Same.seqT (same_new nc) ha, (fun e => nomatch e), ?_, fun e => ?_, fun e p np => ?_⟩⟩
        · rw [List.length_map]
          exact Nat.le_of_lt (line_lt (by show 1 + s.length ≤ _; omega))
        · have e0 : s = [] := List.map_eq_nil_iff.mp e
          subst e0
          exact step _ _ (same_new nc) ⟨c, rfl, SqT.of upd_same⟩
        · exact step _ _ ((same_new nc).trans (same_new np)) ⟨p, rfl, SqT.of upd_same⟩
      · obtain ⟨s4, ws, hD, aW⟩ := h
        rw [lv, List.take_of_length_le (by rw [As_len]; exact Nat.le_refl _)] at aW
        have lw : ws.length = 2 ^ j := by rw [aW.len, List.length_map, As_len]
        refine ⟨B, D, _, _, rfl, rfl, s4 _ _ hB, hD, Nat.le_of_lt (line_lt (by show 1 + ws.length ≤ _; omega)), fun C nC => ?_⟩
        have aC : AllT K (upd H4 C (.lst ([.ref e2] ++ ws))) ([.ref e2] ++ ws) ([[]] ++ (As (o + 1) j).map fun s => (o : Int) :: s) := AllT.same (.app (.cons ⟨e2, rfl, SqT.of (s4 _ _ he2)⟩ .nil) aW) (same_new nC)
        have hC : (upd H4 C (.lst ([.ref e2] ++ ws))) C = some (.lst ([.ref e2] ++ ws)) := upd_same
        have s6 : Same H3 (upd H4 C (.lst ([.ref e2] ++ ws))) := s4.trans (same_new nC)
        generalize upd H4 C (.lst ([.ref e2] ++ ws)) = H6 at aC hC s6 ⊢
        refine ⟨.ref A, rfl, 1, rfl, A, _, rfl, SqL.of (s6 _ _ hA3), fun Z nZ => ?_⟩
        rw [cut1]
        have s7 : Same H6 (upd H6 Z (.lst (vs.drop 1))) := same_new nZ
        refine ⟨C, Z, _, _, rfl, rfl, s7 _ _ hC, upd_same, Nat.le_of_lt (line_lt (by rw [List.length_append, List.length_drop]; show 1 + ws.length + (vs.length - 1) ≤ _; omega)), fun R nR => ?_⟩
        refine ⟨_, R, _, rfl, upd_same, ?_, ((sm.trans s3).trans s6).trans (s7.trans (same_new nR))⟩
        have eA : As (xs.length - (j + 1)) (j + 1) = ([[]] ++ (As (o + 1) j).map fun s => (o : Int) :: s) ++ (As (o + 1) j).drop 1 := by
          rw [show xs.length - (j + 1) = o by omega]
          rfl
        rw [eA]
        exact (aC.app (aT3.same s6).drop1).same (s7.trans (same_new nR))
    · obtain ⟨y2, A, vs, rfl, hA, aT, sm⟩ := hP
      have en : ((xs.length : Int) - 0).toNat = xs.length := by omega
      rw [en, Nat.sub_self] at aT
      exact ⟨.ref A, rfl, A, _, rfl, .inl ⟨SqL.of hA, fun p np => q _ p (sm.trans (same_new np)) (.tup (SqT.of upd_same) (DpAll.same (same_new np) aT.dp))⟩⟩
end
end DS
namespace DS
open PySem PySem.Spec PyProof.Rows L2
section
variable {prog : Program} {w : World} {A : Around} {E : Value → Shared → Prop} {s : Shared}
/-- a tuple of the ints ns -/
def TI (h : Heap) (v : Value) (ns : List Int) : Prop := ∃ a its, v = .ref a ∧ IsTup h a its ∧ IntsAre its.toList ns
theorem lt_ti {x y : Value} {ns ms : List Int} {Q : Bool → Shared → Prop} (hu : A.units < cLine) (hx : TI s.heap x ns) (hy : TI s.heap y ms) (h : Q (HT.lexLt ns ms) s) : wpAny (model prog w) A (keyLt' oneType' x y) Q E s := by
  obtain ⟨a, its, rfl, ⟨⟨cls, dd, data, sl⟩, ho, hc, n, hd⟩, hi⟩ := hx
  obtain ⟨b, its2, rfl, ⟨⟨cls2, dd2, data2, sl2⟩, ho2, hc2, n2, hd2⟩, hj⟩ := hy
  simp only at hc hd hc2 hd2
  subst hc hd hc2 hd2
  rw [keyLt'_oneType, oneLt'_eq]
  simp only [if_true]
  refine wpAny_bind (wpAny_cRoomFor hu ?_)
  refine wpAny_bind (wpAny_callSpecialIfBound?_slot (T := "tuple") ⟨_, ho, rfl⟩ PySem.F.slot_tuple_lt (call_meets PySem.F.slot_tuple_lt ⟨_, ho, rfl⟩ PySem.F.entry_tuple_lt (PySem.F.args_tuple_lt_2 _ _) (HT.tuple_lt_ints a b its its2 n n2 dd dd2 sl sl2 ns ms hi hj) ⟨ho, ho2, ?_⟩))
  exact wpAny_truthy_bool h
theorem mapM_all {α β : Type} {M : Model} {f : α → Sem β} {R : α → β → Prop} : ∀ (l : List α) {Q : List β → Shared → Prop},
    (∀ v ∈ l, ∃ r, R v r ∧ ∀ Q' : β → Shared → Prop, Q' r s → wpAny M A (f v) Q' E s) → (∀ rs, Paired R l rs → Q rs s) → wpAny M A (l.mapM f) Q E s
  | [], _, _, h => by
    rw [List.mapM_nil]
    exact wpAny_pure (h [] .nil)
  | x :: l, Q, hf, h => by
    rw [List.mapM_cons]
    obtain ⟨r, hr, hq⟩ := hf x List.mem_cons_self
    refine wpAny_bind (hq _ (wpAny_bind (mapM_all l (fun v hv => hf v (List.mem_cons_of_mem _ hv)) fun rs hp => ?_)))
    exact wpAny_pure (h _ (.cons hr hp))
theorem kind_ti {v0 v1 : Value} {rest : List Value} {Q : SortKind → Shared → Prop} (hT : ∀ v ∈ v0 :: v1 :: rest, ∃ ns, TI s.heap v ns) (h0 : TI s.heap v0 []) (h : Q oneType' s) : wpAny (model prog w) A (keyKind' (v0 :: v1 :: rest).toArray) Q E s := by
  rw [keyKind'_eq]
  rw [List.mapM_toArray]
  rw [map_eq_pure_bind]
  refine wpAny_bind (wpAny_bind (mapM_all (R := fun v r => v = v0 → r = none) _ (fun v hv => ?_) fun rs hp => ?_))
  · obtain ⟨ns, a, its, rfl, ⟨o, ho, hc, n, hd⟩, hi⟩ := hT v hv
    refine ⟨its[0]?, fun e => ?_, fun Q' hq => ?_⟩
    · subst e
      obtain ⟨a', its', e', ⟨o', ho', hc', n', hd'⟩, hi'⟩ := h0
      cases e'
      rw [ho] at ho'
      cases ho'
      rw [hd] at hd'
      cases hd'
      have := hi'.length
      simp only [List.length_nil] at this
      have sz : its.size = 0 := by simpa using this
      exact Array.getElem?_eq_none (by omega)
    · rw [PySem.W.kas_first_eq]
      refine wpAny_bind (wpAny_typeOf_ref ho ?_)
      rw [hc]
      rw [if_neg (by decide)]
      exact wpAny_bind (listItems_at ho hd (wpAny_pure hq))
  · cases hp with
    | cons hr hp =>
      have e := hr rfl
      subst e
      refine wpAny_pure ?_
      rw [if_neg (by simp), if_neg (by simp)]
      rw [oneTypeOnly'_eq]
      rw [List.mapM_toArray]
      rw [map_eq_pure_bind]
      refine wpAny_bind (wpAny_bind (wpAny_bind (mapM_all (R := fun _ r => r = Value.type "tuple") _ (fun v hv => ?_) fun ts ht => wpAny_pure ?_)))
      · obtain ⟨ns, a, its, rfl, ⟨o, ho, hc, n, hd⟩, hi⟩ := hT v hv
        exact ⟨_, rfl, fun Q' hq => wpAny_typeOf_ref ho (by rw [hc]; exact hq)⟩
      · have all : ∀ {l : List Value} {us : List Value}, Paired (fun _ r => r = Value.type "tuple") l us → ∀ u ∈ us, u = Value.type "tuple" := by
          intro l us hp
          induction hp with
          | nil => intro u hu; cases hu
          | cons h1 h2 ih =>
            intro u hu
            rcases List.mem_cons.mp hu with e | hu
            · rw [e]; exact h1
            · exact ih u hu
        have ha := all ht
        cases ht with
        | cons h1 h2 =>
          rename_i t ts
          have hx : (t :: ts).toArray[0]? = some (Value.type "tuple") := by simp [h1]
          rw [hx]
          have hall : ((t :: ts).toArray.all fun x => x == Value.type "tuple") = true := by
            simp only [List.all_toArray, List.all_eq_true]
            intro u hu
            rw [ha u hu]
            decide
          simp only [hall, if_true]
          exact wpAny_pure (wpAny_pure h)
end
/-- sorted(xs), xs two or more tuples of ints of any lengths, the first one empty: k tells the ints -/
def rSortTI (K : PySem.W.Frag) : List V → Hp → VK → Prop := fun vs H Q => ∃ (a : Addr) (k : V → List Int) (x0 x1 : V) (r : List V), vs = [.ref a] ∧ SqL K H a (x0 :: x1 :: r) ∧ (∀ x ∈ x0 :: x1 :: r, TupI K H x (k x)) ∧ k x0 = [] ∧
  ∀ (ys : List V) (p : Addr), ys.Perm (x0 :: x1 :: r) → ys.Pairwise (fun x y => HT.lexLt (k y) (k x) = false) → H p = none → Q (.ref p) (upd H p (.lst ys))
theorem swoL (k : Value → List Int) : SrtO.Swo fun v u => HT.lexLt (k v) (k u) := ⟨fun x y h => lex_asym _ _ h, fun x y z h1 h2 => lex_tr _ _ _ h1 h2⟩
theorem cr_sortTI {X : Cx} (hu : X.A.units + 64 < cLine) : CallR X (.builtin "sorted") (rSortTI X.K) := by
  intro pins s σ H vs us Q I r h
  obtain ⟨a, k, x0, x1, rest, rfl, hs, hx, h0, q⟩ := h
  obtain ⟨its, rv, hl, hz⟩ := I.list hs
  obtain ⟨u, rfl, ru⟩ := vals1 r
  obtain rfl : u = Value.ref a := ru
  obtain ⟨e1, e2⟩ := refs_back rv fun x m => (hx x m).imp fun t h => h.1
  have ti : ∀ v ∈ its, TI s.heap v (k (backV v)) := fun v hv => by
    obtain ⟨t, rfl⟩ := e2 v hv
    have hm : V.ref t ∈ x0 :: x1 :: rest := by
      rw [e1]
      exact List.mem_map.mpr ⟨_, hv, rfl⟩
    obtain ⟨t', e, ht⟩ := hx _ hm
    cases e
    obtain ⟨its2, r2, p2, _⟩ := I.tuple ht
    exact ⟨t, its2.toArray, rfl, p2, intsAre_of r2⟩
  obtain ⟨v0, v1, vr, rfl, rfl, rfl, rfl⟩ : ∃ v0 v1 vr, its = v0 :: v1 :: vr ∧ x0 = backV v0 ∧ x1 = backV v1 ∧ rest = vr.map backV := by
    match its, e1 with
    | v0 :: v1 :: vr, e =>
      injection e with a b
      injection b with b c
      exact ⟨v0, v1, vr, rfl, a, b, c⟩
  have keep : ∀ {h' : Heap} {b : Addr} {v : Value} {ns : List Int}, TI s.heap v ns → (∀ c o, s.heap.get? c = some o → o.cls = .type "tuple" → h'.get? c = some o) → TI h' v ns := fun {h' b v ns} t kk => by
    obtain ⟨c, its, rfl, ⟨o, ho, hc, n, hd⟩, hi⟩ := t
    exact ⟨c, its, rfl, ⟨o, kk _ _ ho hc, hc, n, hd⟩, hi⟩
  refine SrtO.sorted_ord (swoL fun v => k (backV v)) hl.isList (by rw [← rv.length]; exact hz) (fun h2 h₁ d hd kk => ?_) fun out hs hb => ?_
  · intro h' kh
    have k1 : ∀ v ∈ v0 :: v1 :: vr, TI h' v (k (backV v)) := fun v hv => keep (b := 0) (ti v hv) fun c o e ec => kh c o (kk c o e).1 (kk c o e).2
    refine ⟨oneType', fun Q' E' hq => kind_ti (fun v hv => ⟨_, k1 v hv⟩) ?_ hq, fun p q hp hq => ?_⟩
    · have := k1 v0 List.mem_cons_self
      rw [h0] at this
      exact this
    · exact lt_ti (show X.A.units + 1 + 1 < cLine by omega) (k1 _ hp) (k1 _ hq) ⟨rfl, rfl⟩
  · have h3 : ∀ u ∈ out, ∃ a, u = Value.ref a := fun u hu => e2 u (hb.perm.mem_iff.mp hu)
    obtain ⟨n, hn⟩ := sortedAll_at s.heap (v0 :: v1 :: vr) out.toArray
    have hper : (out.map backV).Perm (backV v0 :: backV v1 :: vr.map backV) := hb.perm.map backV
    refine ⟨.ref _, upd H _ (.lst (out.map backV)), I.laid (t' := s.toks) (fun b o e => sortedAll_old e) (Nat.le_succ _) ⟨?_, out, n, vals_back h3, hn⟩, rfl, q _ _ hper (List.pairwise_map.mpr hs) (I.hok.fresh (Nat.le_succ _))⟩
    rw [hper.length_eq]
    exact hz
end DS
namespace DS
open PySem PySem.Spec PyProof.Rows L2
/-! ### what is under way around a body is something, though not told -/
abbrev inG (X : Cx) (g : List Code) : Cx := { X with A := { X.A with guards := some g } }
section
variable {X : Cx} {g : List Code} {pins : List (Addr × Obj)} {σ : L2.St} {H : Hp} {s : Shared}
theorem ok_in (h : X.Ok) : (inG X g).Ok := ⟨h.1, h.2, h.3, h.4, h.5, h.6, h.7, h.8, h.9, h.10, h.11, h.12, h.13, h.14, h.15, h.16, h.17, h.18⟩
theorem ok_out (h : (inG X g).Ok) : X.Ok := ⟨h.1, h.2, h.3, h.4, h.5, h.6, h.7, h.8, h.9, h.10, h.11, h.12, h.13, h.14, h.15, h.16, h.17, h.18⟩
theorem inv_in (h : Inv X pins σ H s) : Inv (inG X g) pins σ H s := ⟨ok_in h.1, h.2, h.3, h.4, h.5, h.6, h.7, h.8, h.9, h.10, h.11⟩
theorem inv_out (h : Inv (inG X g) pins σ H s) : Inv X pins σ H s := ⟨ok_out h.1, h.2, h.3, h.4, h.5, h.6, h.7, h.8, h.9, h.10, h.11⟩
theorem sp_out {D : Ends} {fl : Flow} (h : SP (inG X g) pins D fl s) : SP X pins D fl s := by
  cases fl with
  | ret u =>
    obtain ⟨v, σ', H', J, r⟩ := h
    exact ⟨v, σ', H', inv_out J, r⟩
  | next =>
    obtain ⟨σ', H', J, r⟩ := h
    exact ⟨σ', H', inv_out J, r⟩
  | brk =>
    obtain ⟨σ', H', J, r⟩ := h
    exact ⟨σ', H', inv_out J, r⟩
  | cont =>
    obtain ⟨σ', H', J, r⟩ := h
    exact ⟨σ', H', inv_out J, r⟩
end
theorem pss_g {X : Cx} {body : List Stmt} {t : List Code → TS} (h : ∀ g, PSs (inG X g) body (t g)) : PSs X body (fun D σ H => ∀ g, t g D σ H) := by
  refine ⟨fun pins s σ H D I q Γ p hΓ => ?_⟩
  obtain ⟨h1, h2, h3, h4, h5⟩ := hΓ
  have hin : Γ.In ({ X.A with guards := some (Γ.code.guards ++ guardsOf Γ.below) } : Around) := ⟨h1, h2, h3, fun g e => Option.some.inj e, h5⟩
  exact wpAny_mono ((h (Γ.code.guards ++ guardsOf Γ.below)).run pins s σ H D (inv_in I) (q _)) (fun fl s' hs => sp_out hs) (fun _ _ e => e) Γ p hin
/-! ### repr of a tuple of texts -/
section
variable {prog : Program} {w : World} {A : Around} {E : Value → Shared → Prop} {s : Shared} {a : Addr} {o : Obj} {items : Array Value} {n : Nat} {g : List Code}
theorem repr_under {Q : Value → Shared → Prop} (hT : s.TypeIs (.ref a) "tuple") (hg : A.guards = some g) (hy : (g.any fun c => tupGuardF (.ref a) (c, default)) = true) (hQ : ∀ u tk, Q (.str "(...)" u) { s with toks := tk }) :
    wpAny (model prog w) A (call (.builtin "tuple.__repr__") [.ref a]) Q E s := by
  refine wpAny_call (codeAny_call_builtin_own (Code.quiet_builtin _ (by decide +kernel)) F.entry_tuple_repr (F.slot_tuple_repr.check _ _ _ _ _ _ _ _ hT (F.args_tuple_repr_1 _) ?_))
  show wpOwn _ _ _ (Builtin.tupleReprAt 0 ⟨[.ref a], []⟩) _ _ s
  rw [tuple_repr_tree, tupleReprUnderWay_eq]
  refine wpOwn_bind (wpOwn_stackTailAny hg (tupGuardF_off _) (tupGuardF_pos _) ?_)
  rw [hy]
  refine wpOwn_of_wpAny (PySem.W.KFB.if_so rfl (wpAny_bind (wpAny_rule (wpAny_bind (wpAny_mkStr (wpAny_pure ?_) (by decide +kernel))))))
  exact hQ _ _
end
/-- what repr says of the tuple of texts at a, with g under way -/
def reprG (g : List Code) (a : Addr) (l : List Str) : Str := if (g.any fun c => tupGuardF (.ref a) (c, default)) = true then "(...)" else tupleText (l.map reprText)
theorem call_reprT {X : Cx} {g : List Code} (hg : X.A.guards = some g) (hu : X.A.units + 64 < cLine) : CallR X (.builtin "repr") (fun vs H Q => ∃ (a : Addr) (l : List Str), vs = [.ref a] ∧ SqT X.K H a (l.map V.str) ∧
    (∀ y ∈ l, ∀ c ∈ y.cps.toList, c < 16 ^ 8) ∧ fmtCost l + 7 ≤ sizeLine ∧ Q (.str (reprG g a l)) H) := by
  intro pins s σ H vs us Q I r h
  obtain ⟨a, l, rfl, ht, hc, hz, q⟩ := h
  obtain ⟨u, rfl, ru⟩ := vals1 r
  obtain rfl : u = Value.ref a := ru
  obtain ⟨its, rv, ⟨o, ho, hcl, n, hd⟩, _⟩ := I.tuple ht
  have hp := fmt_piled l hc
  have htx := fmt_text (l.map reprText)
  have one : ∀ y ∈ l, (reprText y).length ≤ sizeLine := fun y hy => by
    have h1 := StrLaws.reprText_len y (hc y hy)
    have h2 := fmtCost_mem hy
    omega
  refine call_repr_slot (by omega) ⟨o, ho, hcl⟩ PySem.F.slot_tuple_repr ?_
  unfold reprG at q
  by_cases hy : (g.any fun c => tupGuardF (.ref a) (c, default)) = true
  · rw [if_pos hy] at q
    exact repr_under (A := X.A.in1) ⟨o, ho, hcl⟩ hg hy fun u tk => ⟨_, u, rfl, .str _, H, I.tok tk, ⟨u, rfl⟩, q⟩
  · rw [if_neg hy] at q
    refine call_tuple_repr (A := X.A.in1) ⟨o, ho, hcl⟩ hg (fun c hm => ?_) ho hd (repr_all rv one) (fun u tk => ⟨_, u, rfl, .str _, H, I.tok tk, ⟨u, rfl⟩, q⟩) (by omega)
    cases e : tupGuardF (.ref a) (c, default) with
    | false => rfl
    | true => exact absurd (List.any_eq_true.mpr ⟨c, hm, e⟩) hy
end DS
namespace DS
open PySem PySem.Spec PyProof.Rows L2
abbrev sLaw : Stmt := topS 11
abbrev nLaw : List Str := ["_law_script", "_law_deck_here", "_law_turn", "_law_most", "_law_table_here", "_law_kept", "_law_size", "_law_many", "_law_one_here", "_law_due", "_law_number"]
theorem scLaw : FnScope nLaw ["_law_script"] (defScope sLaw) := ⟨rfl, rfl, rfl, by decide +kernel, rfl, by decide +kernel, by decide +kernel⟩
theorem dg_zero : ∀ m lo : Nat, dg lo m 0 = []
  | 0, _ => rfl
  | m + 1, lo => by
    show (if 0 % 2 = 1 then [(lo : Int)] else []) ++ dg (lo + 1) m (0 / 2) = []
    rw [dg_zero m (lo + 1)]
    rfl
/-- the ints of a tuple that is tracked -/
def intOf : V → Option Int
  | .int i => some i
  | _ => none
def tupOf : Option HO → List Int
  | some (.tup xs) => xs.filterMap intOf
  | _ => []
def kOf (H : Hp) : V → List Int
  | .ref a => tupOf (H a)
  | _ => []
theorem ints_back : ∀ s : List Int, (s.map V.int).filterMap intOf = s
  | [] => rfl
  | x :: r => by
    show x :: (r.map V.int).filterMap intOf = x :: r
    rw [ints_back r]
theorem kOf_at {H : Hp} {a : Addr} {s : List Int} (h : H a = some (.tup (s.map V.int))) : kOf H (.ref a) = s := by
  show tupOf (H a) = s
  rw [h]
  exact ints_back s
theorem tab_len (z : Nat) (b : Nat → Nat → Bool) : (tabS z b).length = z := by
  unfold tabS
  rw [List.length_map, List.length_range]
theorem tab_codes {z : Nat} {b : Nat → Nat → Bool} : ∀ y ∈ tabS z b, (∀ c ∈ y.cps.toList, c < 16 ^ 8) ∧ y.length = z := by
  intro y hy
  obtain ⟨i, _, rfl⟩ := List.mem_map.mp hy
  refine ⟨fun c hc => ?_, ?_⟩
  · have hc' : c ∈ (List.range z).map (sgn b i) := hc
    obtain ⟨j, _, rfl⟩ := List.mem_map.mp hc'
    unfold sgn
    split
    · decide
    · split <;> decide
  · show ((List.range z).map (sgn b i)).toArray.size = z
    rw [List.size_toArray, List.length_map, List.length_range]
theorem cost_le {m : Nat} : ∀ {l : List Str}, (∀ y ∈ l, y.length = m) → fmtCost l = l.length * (10 * m + 4)
  | [], _ => by
    show 0 = 0 * _
    rw [Nat.zero_mul]
  | y :: l, h => by
    have e : (l.length + 1) * (10 * m + 4) = l.length * (10 * m + 4) + (10 * m + 4) := Nat.succ_mul _ _
    rw [fmtCost_cons, h y List.mem_cons_self, cost_le fun z hz => h z (List.mem_cons_of_mem _ hz), List.length_cons, e]
    omega
theorem tab_cost {z : Nat} {b : Nat → Nat → Bool} (h : z ≤ 9) : fmtCost (tabS z b) + 7 ≤ sizeLine := by
  rw [cost_le fun y hy => (tab_codes y hy).2, tab_len]
  refine Nat.le_of_lt (line_lt ?_)
  have : z * (10 * z + 4) ≤ 9 * 94 := Nat.mul_le_mul h (by omega)
  omega
theorem fits_sets {z : Nat} (h : z ≤ 9) : Fits 2 (.tuple ((As 0 z).map tupD)) := by
  refine ⟨?_, fun d hd => ?_⟩
  · rw [List.length_map, As_len]
    have : 2 ^ z ≤ 2 ^ 9 := Nat.pow_le_pow_right (by decide) h
    omega
  · obtain ⟨s, hs, rfl⟩ := List.mem_map.mp hd
    refine ⟨?_, fun d hd => ?_⟩
    · rw [List.length_map]
      have := As_mem_len z 0 s hs
      omega
    · obtain ⟨i, _, rfl⟩ := List.mem_map.mp hd
      exact True.intro
theorem dp_sorted {K : PySem.W.Frag} {H : Hp} {k : V → List Int} : ∀ {ys : List V}, (∀ y ∈ ys, TupI K H y (k y)) → DpAll K H ys ((ys.map k).map tupD)
  | [], _ => .nil
  | y :: ys, h => .cons (h y List.mem_cons_self).dp (dp_sorted fun z hz => h z (List.mem_cons_of_mem _ hz))
section
variable {P : Program} {w : World} {K : PySem.W.Frag} {mg : Str → Option Value} {base : Heap}
def spLaw (K : PySem.W.Frag) : Sp := fun vs H Q _ => ∃ (a : Addr) (ns : List Int), vs = [.ref a] ∧ SqL K H a (ns.map V.int) ∧ ns.length ≤ 63 ∧ ∀ H', Q (.bl true) H'
/-- the defs as they stand -/
structure Txt4 (K : PySem.W.Frag) (mg : Str → Option Value) (fD fN fS fM fW fT fG fA : Addr) (dD dN dS dM dW dT dG dA : FuncData) : Prop where
  D : Fun K "_law_deck" "_law_deck" sDeck fD dD
  bD : Binds K dD ["_law_script"] []
  gD : mg "_law_deck" = some (.ref fD)
  N : Fun K "_law_next" "_law_next" sNext fN dN
  bN : Binds K dN ["_law_deck_here", "_law_many"] []
  gN : mg "_law_next" = some (.ref fN)
  S : Fun K "_law_same" "_law_same" sSame fS dS
  bS : Binds K dS ["_law_found", "_law_due"] []
  gS : mg "_law_same" = some (.ref fS)
  M : Fun K "_law_mixed" "_law_mixed" sMixed fM dM
  bM : Binds K dM ["_law_deck_here", "_law_items"] []
  gM : mg "_law_mixed" = some (.ref fM)
  W : Fun K "_law_won" "_law_won" sWon fW dW
  bW : Binds K dW ["_law_deck_here", "_law_way", "_law_one_here", "_law_other"] []
  gW : mg "_law_won" = some (.ref fW)
  T : Fun K "_law_table" "_law_table" sTable fT dT
  bT : Binds K dT ["_law_deck_here", "_law_most"] []
  gT : mg "_law_table" = some (.ref fT)
  G : Fun K "_law_digits" "_law_digits" sDigits fG dG
  bG : Binds K dG ["_law_number", "_law_size"] []
  gG : mg "_law_digits" = some (.ref fG)
  A : Fun K "all_sets" "all_sets" sAll fA dA
  bA : Binds K dA ["table"] []
  gA : mg "all_sets" = some (.ref fA)
  blt : Blt mg
  abs : mg "abs" = none
  rev : mg "reversed" = none
  repr : mg "repr" = none
  sorted : mg "sorted" = none
theorem ok_law {f fD fN fS fM fW fT fG fA : Addr} {fd dD dN dS dM dW dT dG dA : FuncData} (F : Fun K "law" "law" sLaw f fd) (T : Txt4 K mg fD fN fS fM fW fT fG fA dD dN dS dM dW dT dG dA) : FnOk P w K mg base CX0 4 f fd ["_law_script"] (spLaw K) := by
  have GD : FnOk P w K mg base CX0 1 fD dD ["_law_script"] (spDeck K) := ok_deck T.D T.blt.len T.abs T.blt.int
  have GT : FnOk P w K mg base CX0 3 fT dT ["_law_deck_here", "_law_most"] spTable := ok_table T.T T.N T.bN T.gN T.W T.bW T.gW T.M T.bM T.gM T.blt.len T.blt.list T.blt.range T.blt.int T.blt.tuple
  have GS : FnOk P w K mg base CX0 3 fS dS ["_law_found", "_law_due"] (spSame K 2) := ok_same T.S T.bS T.gS T.blt 2
  have GG : FnOk P w K mg base CX0 1 fG dG ["_law_number", "_law_size"] spDigits := ok_digits T.G T.blt.range T.blt.tuple
  have GA : FnOk P w K mg base CX0 1 fA dA ["table"] (spAll K) := ok_all T.A T.blt.len T.blt.range T.blt.tuple T.rev
  refine F.ok scLaw (fun vs H Q E h => ?_) (fun cdv A outer s H vs Q E hr0 h => ?_)
  · obtain ⟨a, ns, rfl, _⟩ := h
    rfl
  · obtain ⟨a, ns, rfl, ha, hn, q⟩ := h
    have nd := scLaw.nd
    have hrg : ∀ g : List Code, Room 3 (inG (cxOf CX0 P w K mg base nLaw "law" (defScope sLaw) f cdv A outer s H E).nox g).A := fun g => ⟨hr0.hd, hr0.dp, hr0.un⟩
    have hr1 : ∀ g : List Code, Room 1 (inG (cxOf CX0 P w K mg base nLaw "law" (defScope sLaw) f cdv A outer s H E).nox g).A := fun g => (hrg g).mono (by decide)
    refine ⟨_, pss_g fun g => pss_cons (ps_set (i := 1) nd rfl (.inl rfl) (pe_call GD (hr1 g) (by rfl) T.gD T.D.kp T.bD .nil pass0 (pa_cons (pv 0) pa_nil)))
      (pss_cons (ps_for PassesOwn.never rfl (pi_range1 (by rfl) T.blt.range (pa_cons pe_int pa_nil)) (pg_name (i := 2) nd rfl (.inl rfl))
        (pss_one (ps_for PassesOwn.never rfl (pi_list (pe_lst (pa_cons pe_int (pa_cons pe_int pa_nil)))) (pg_name (i := 3) nd rfl (.inl rfl))
          (pss_cons (ps_set (i := 4) nd rfl (.inl rfl) (pe_call GT (hrg g) (by rfl) T.gT T.T.kp T.bT .nil pass0 (pa_cons (pv 1) (pa_cons (pv 3) pa_nil))))
          (pss_cons (ps_asg (pe_tup (pa_cons (pe_callB (call_reprT (g := g) rfl (hrg g).units) (by rfl) T.repr (by decide +kernel) (pa_cons (pv 4) pa_nil)) (pa_cons (pe_callB call_len_seq (by rfl) T.blt.len PySem.boot_len (pa_cons (pv 4) pa_nil)) (pa_cons pe_int pa_nil))))
            (pg_tup rfl (pgs_cons (pg_name (i := 5) nd rfl (.inl rfl)) (pgs_cons (pg_name (i := 6) nd rfl (.inr rfl)) (pgs_cons (pg_name (i := 7) nd rfl (.inl rfl)) pgs_nil)))))
          (pss_cons (ps_for PassesOwn.never rfl (pi_range1 (by rfl) T.blt.range (pa_cons (pv 6) pa_nil)) (pg_name (i := 8) nd rfl (.inl rfl))
            (pss_one (ps_set (i := 7) nd rfl (.inl rfl) (pe_op op_mul (pv 7) pe_int))))
          (pss_cons (ps_set (i := 9) nd rfl (.inl rfl) (pe_callTy call_tuple_of (by rfl) T.blt.tuple (by decide +kernel) (pa_cons (pe_callB (cr_sortTI (hrg g).units) (by rfl) T.sorted (by decide +kernel) (pa_cons
            (pe_lc (own := [("_law_number", 10)]) (g := gName 10) (tt := tYes) rfl nd (pi_range1 (by rfl) T.blt.range (pa_cons (pv 7) pa_nil)) (blkOk_by (by rfl))
              (fun _ _ _ _ _ => pg_name (i := 10) nd rfl (.inl rfl)) (fun _ _ _ _ _ => pts_nil) (fun _ _ _ _ _ => pe_call GG (hr1 g) (by rfl) T.gG T.G.kp T.bG .nil pass0 (pa_cons (pv 10) (pa_cons (pv 6) pa_nil)))) pa_nil)) pa_nil)))
          (pss_one (ps_if (PW.pt (pw_or (pt_not (pt_val (pe_call GS (hrg g) (by rfl) T.gS T.S.kp T.bS .nil pass0 (pa_cons (pe_call GA (hr1 g) (by rfl) T.gA T.A.kp T.bA .nil pass0 (pa_cons (pv 4) pa_nil)) (pa_cons (pv 9) pa_nil)))))
              (pw_or (pt_not (pt_val (pe_call GS (hrg g) (by rfl) T.gS T.S.kp T.bS .nil pass0 (pa_cons (pe_call GA (hr1 g) (by rfl) T.gA T.A.kp T.bA .nil pass0 (pa_cons (pv 4) pa_nil)) (pa_cons (pv 9) pa_nil)))))
              (pw_or1 (pt_cmpR op_ne (pe_callB (call_reprT (g := g) rfl (hrg g).units) (by rfl) T.repr (by decide +kernel) (pa_cons (pv 4) pa_nil)) (pv 5) (nomark _))))))
            (pss_one (ps_ret pe_bl)) pss_nil)))))))))
      (pss_one (ps_ret (pe_call GS (hrg g) (by rfl) T.gS T.S.kp T.bS .nil pass0 (pa_cons (pe_call GA (hr1 g) (by rfl) T.gA T.A.kp T.bA .nil pass0 (pa_cons (pe_tup (pa_cons pe_str pa_nil)) pa_nil)) (pa_cons (pe_tup (pa_cons (pe_tup pa_nil) (pa_cons (pe_tup (pa_cons pe_int pa_nil)) pa_nil))) pa_nil)))))), fun g => ?_⟩
    refine ⟨.ref a, rfl, a, ns, rfl, ha, hn, fun H1 d c r s1 _ _ _ D1 => ?_⟩
    refine ⟨2, rfl, by decide, by decide, ?_⟩
    refine for_range (lo := 0) (n := 2) (fun i σ H' => ∃ y2 y3 y4 y5 y6 y7 y8 y9 : Option V, σ = [some (V.ref a), some (V.ref d), y2, y3, y4, y5, y6, y7, y8, y9, none] ∧ Deck H' d c r (i * 1000))
      ⟨none, none, none, none, none, none, none, none, rfl, D1⟩ (fun i σ H2 hi hP => ?_) (fun σ H2 hP => ?_)
    · obtain ⟨y2, y3, y4, y5, y6, y7, y8, y9, rfl, D2⟩ := hP
      refine ⟨(show 2 ≤ sizeLine by decide), fun l nl => ⟨l, rfl, ⟨_, SqL.of upd_same⟩, ?_⟩⟩
      have D3 : Deck (upd H2 l (.lst [.int 9, .int 3])) d c r (i * 1000) := D2.same (same_new nl)
      have hl3 : (upd H2 l (.lst [.int 9, .int 3])) l = some (.lst [.int 9, .int 3]) := upd_same
      have ld := D2.ned nl
      have lr := D2.ner nl
      generalize upd H2 l (.lst [.int 9, .int 3]) = H3 at D3 hl3 ⊢
      refine for_list (K := K) (a := l) (xs := [.int 9, .int 3]) (fun j σ H' => ∃ y3 y4 y5 y6 y7 y8 y9 : Option V, σ = [some (V.ref a), some (V.ref d), some (V.int (0 + (i : Int))), y3, y4, y5, y6, y7, y8, y9, none] ∧ Deck H' d c r (i * 1000 + j * 200) ∧ H' l = some (.lst [.int 9, .int 3]))
        ⟨y3, y4, y5, y6, y7, y8, y9, rfl, D3, hl3⟩ (fun j σ H' _ h => by obtain ⟨_, _, _, _, _, _, _, _, _, h⟩ := h; exact SqL.of h) (fun j x σ H4 hx hP => ?_) (fun σ H4 hP => ?_)
      · obtain ⟨y3, y4, y5, y6, y7, y8, y9, rfl, D4, hl4⟩ := hP
        obtain ⟨m, m1, m9, rfl⟩ : ∃ m : Nat, 1 ≤ m ∧ m ≤ 9 ∧ x = .int m := by
          match j, hx with
          | 0, e => cases e; exact ⟨9, by decide, by decide, rfl⟩
          | 1, e => cases e; exact ⟨3, by decide, by decide, rfl⟩
        have j2 : j < 2 := (List.getElem?_eq_some_iff.mp hx).1
        refine ⟨.ref d, rfl, .int m, rfl, d, c, r, i * 1000 + j * 200, m, rfl, D4, by omega, m1, m9, fun H5 t z b z1 zm trn D5 f5 nt ht => ?_⟩
        have z9 : z ≤ 9 := Nat.le_trans zm m9
        have hl5 := f5.get hl4 ld lr
        have lz : ((tabS z b).map V.str).length = z := by rw [List.length_map, tab_len]
        refine ⟨.ref t, rfl, t, tabS z b, rfl, SqT.of ht, fun y hy => (tab_codes y hy).1, tab_cost z9, .ref t, rfl, t, _, rfl, .inr (SqT.of ht), (show 3 ≤ sizeLine by decide), fun B nB => ?_⟩
        rw [lz]
        refine ⟨B, _, rfl, SqT.of upd_same, rfl, _, _, rfl, _, _, rfl, _, _, rfl, rfl, ?_⟩
        have s6 : Same H5 (upd H5 B (.tup [.str (reprG g t (tabS z b)), .int z, .int 1])) := same_new nB
        have D6 := D5.same s6
        have hl6 := s6 _ _ hl5
        have ht6 := s6 _ _ ht
        generalize upd H5 B (.tup [.str (reprG g t (tabS z b)), .int z, .int 1]) = H6 at D6 hl6 ht6 ⊢
        -- many
        refine ⟨.int z, rfl, z, rfl, by omega, by omega, ?_⟩
        refine for_range (lo := 0) (n := (z : Int).toNat) (fun k σ H' => ∃ y8 : Option V, σ = [some (V.ref a), some (V.ref d), some (V.int (0 + (i : Int))), some (V.int m), some (V.ref t), some (V.str (reprG g t (tabS z b))), some (V.int z), some (V.int ((2 ^ k : Nat) : Int)), y8, y9, none] ∧ H' = H6)
          ⟨y8, rfl, rfl⟩ (fun k σ H' hk hP => ?_) (fun σ H' hP => ?_)
        · obtain ⟨y8, rfl, rfl⟩ := hP
          refine ⟨_, rfl, _, _, rfl, rfl, .inr ⟨by decide, by decide⟩, some (V.int (0 + (k : Int))), ?_, rfl⟩
          show [_, _, _, _, _, _, _, some (V.int (((2 ^ k : Nat) : Int) * 2)), _, _, _] = _
          rw [show ((2 ^ k : Nat) : Int) * 2 = ((2 ^ (k + 1) : Nat) : Int) by rw [Nat.pow_succ]; omega]
        obtain ⟨y8', rfl, rfl⟩ := hP
        have ez : (z : Int).toNat = z := by omega
        rw [ez]
        have pz : 2 ^ z ≤ 2 ^ 9 := Nat.pow_le_pow_right (by decide) z9
        have pz2 : 2 ^ 1 ≤ 2 ^ z := Nat.pow_le_pow_right (by decide) z1
        -- the sets from digits
        refine ⟨.int _, rfl, _, rfl, by omega, by omega, fun C nC => ?_⟩
        refine lc_range (lo := 0) (n := ((2 ^ z : Nat) : Int).toNat) (fun k H7 => Same H' H7 ∧ ∃ as : List Addr, H7 C = some (.lst (as.map V.ref)) ∧ as.length = k ∧ ∀ u e, as[u]? = some e → H7 e = some (.tup ((dg 0 z u).map V.int)))
          ⟨same_new nC, [], upd_same, rfl, fun u e h => by simp at h⟩ (fun k H7 hk h => ?_) (fun H7 h => ?_)
        · obtain ⟨s7, as, hC, la, hA⟩ := h
          refine ⟨rfl, _, rfl, .int z, rfl, k, z, by rw [show (0 : Int) + (k : Int) = ((k : Nat) : Int) by omega]; rfl, by omega, fun H8 p s8 hp => ⟨as.map V.ref, s8 _ _ hC, line_lt (by rw [List.length_map]; omega), ?_⟩⟩
          refine ⟨fun x o e => ?_, as ++ [p], ?_, by rw [List.length_append, la]; rfl, fun u e he => ?_⟩
          · rw [upd_ne (ne_of_none e nC)]
            exact s8 _ _ (s7 x o e)
          · rw [upd_same, List.map_append]
            rfl
          · by_cases hu : u < as.length
            · rw [List.getElem?_append_left hu] at he
              have h1 := s8 _ _ (hA u e he)
              rw [upd_ne (ne_of h1 (s8 _ _ hC) (by intro z; cases z))]
              exact h1
            · rw [List.getElem?_append_right (by omega)] at he
              have e0 : u - as.length = 0 := by
                have := (List.getElem?_eq_some_iff.mp he).1
                simp at this
                omega
              rw [e0] at he
              cases he
              obtain rfl : u = k := by omega
              rw [upd_ne (ne_of hp (s8 _ _ hC) (by intro z; cases z))]
              exact hp
        obtain ⟨s7, as, hC, la, hA⟩ := h
        rw [Int.toNat_natCast] at la
        obtain ⟨a0, a1, ar, rfl⟩ : ∃ a0 a1 ar, as = a0 :: a1 :: ar := by
          match as, la with
          | [], e => simp at e; omega
          | [_], e => simp at e; omega
          | a0 :: a1 :: ar, _ => exact ⟨a0, a1, ar, rfl⟩
        have kk : ∀ u e, (a0 :: a1 :: ar)[u]? = some e → kOf H7 (.ref e) = dg 0 z u := fun u e h => kOf_at (hA u e h)
        have tk : ∀ y ∈ V.ref a0 :: V.ref a1 :: ar.map V.ref, TupI K H7 y (kOf H7 y) := fun y hy => by
          have hy' : y ∈ (a0 :: a1 :: ar).map V.ref := hy
          obtain ⟨e, he, rfl⟩ := List.mem_map.mp hy'
          obtain ⟨u, hu, rfl⟩ := List.getElem_of_mem he
          have h1 := List.getElem?_eq_getElem hu
          refine ⟨_, rfl, ?_⟩
          rw [kk u _ h1]
          exact SqT.of (hA u _ h1)
        refine ⟨C, kOf H7, .ref a0, .ref a1, ar.map V.ref, rfl, SqL.of hC, tk, ?_, fun ys p hper hsrt np => ?_⟩
        · rw [kk 0 a0 rfl, dg_zero]
        have eys : ys.map (kOf H7) = As 0 z := by
          refine sorted_one (R := fun x y => HT.lexLt y x = false) (fun x y h1 h2 => lex_anti x y h2 h1) lex_irr (List.Perm.trans (hper.map (kOf H7)) ?_) (List.pairwise_map.mpr hsrt) ((As_up z 0).imp fun {x y} h => lex_asym x y h)
          have e1 : (V.ref a0 :: V.ref a1 :: ar.map V.ref).map (kOf H7) = (List.range (2 ^ z)).map (dg 0 z) := by
            show ((a0 :: a1 :: ar).map V.ref).map (kOf H7) = _
            rw [List.map_map]
            refine List.ext_getElem? fun u => ?_
            rw [List.getElem?_map, List.getElem?_map]
            by_cases hu : u < 2 ^ z
            · have h1 : (a0 :: a1 :: ar)[u]? = some (a0 :: a1 :: ar)[u] := List.getElem?_eq_getElem (by omega)
              rw [h1, List.getElem?_range hu]
              show some (kOf H7 (.ref _)) = some _
              rw [kk u _ h1]
            · rw [List.getElem?_eq_none (by omega), List.getElem?_eq_none (by rw [List.length_range]; omega)]
              rfl
          rw [e1]
          exact dg_perm z 0
        have s8 : Same H7 (upd H7 p (.lst ys)) := same_new np
        refine ⟨p, ys, rfl, .inl ⟨SqL.of upd_same, fun qd nq => ?_⟩⟩
        have s9 : Same H7 (upd (upd H7 p (.lst ys)) qd (.tup ys)) := s8.trans (same_new nq)
        have dq : Dp K (upd (upd H7 p (.lst ys)) qd (.tup ys)) (.ref qd) (.tuple ((As 0 z).map tupD)) := by
          rw [← eys]
          exact .tup (SqT.of upd_same) (dp_sorted fun y hy => (tk y (hper.mem_iff.mp hy)).same s9)
        have s10 := s7.trans s9
        have D10 := D6.same s10
        have hl10 := s10 _ _ hl6
        have ht10 := s10 _ _ ht6
        generalize upd (upd H7 p (.lst ys)) qd (.tup ys) = H10 at dq D10 hl10 ht10 ⊢
        have fs := fits_sets z9
        -- both calls, and the table's own text
        refine ⟨.ref t, rfl, t, _, rfl, SqT.of ht10, by omega, by omega, fun H11 p1 s11 dp1 => ?_⟩
        rw [lz] at dp1
        refine ⟨.ref qd, rfl, _, _, _, rfl, dp1, Dp.same s11 dq, fs, fun H12 s12 => ⟨true, rfl, iteF ?_⟩⟩
        have s13 := s11.trans s12
        refine ⟨.ref t, rfl, t, _, rfl, SqT.of (s13 _ _ ht10), by omega, by omega, fun H14 p2 s14 dp2 => ?_⟩
        rw [lz] at dp2
        refine ⟨.ref qd, rfl, _, _, _, rfl, dp2, Dp.same (s13.trans s14) dq, fs, fun H15 s15 => ⟨true, rfl, iteF ?_⟩⟩
        have s16 := (s13.trans s14).trans s15
        refine ⟨.ref t, rfl, t, tabS z b, rfl, SqT.of (s16 _ _ ht10), fun y hy => (tab_codes y hy).1, tab_cost z9, _, rfl, rfl, _, rfl, ?_⟩
        rw [decide_eq_true rfl]
        refine iteF ⟨_, _, _, _, _, _, _, rfl, (D10.same s16).mono (by omega), s16 _ _ hl10⟩
      · obtain ⟨y3, y4, y5, y6, y7, y8, y9, rfl, D4, hl4⟩ := hP
        exact ⟨_, y3, y4, y5, y6, y7, y8, y9, rfl, D4.mono (by show i * 1000 + 2 * 200 ≤ (i + 1) * 1000; omega)⟩
    · obtain ⟨y2, y3, y4, y5, y6, y7, y8, y9, rfl, D2⟩ := hP
      refine ⟨(show 1 ≤ sizeLine by decide), fun B nB => ⟨B, _, rfl, SqT.of upd_same, by decide, by decide, fun H3 p s3 dp => ?_⟩⟩
      refine ⟨Nat.zero_le _, fun e1 n1 => ⟨(show 1 ≤ sizeLine by decide), fun e2 n2 => ⟨(show 2 ≤ sizeLine by decide), fun e3 n3 => ?_⟩⟩⟩
      have sA := same_new (o := .tup []) n1
      have sB := same_new (o := .tup [.int 0]) n2
      have sC := same_new (o := .tup [.ref e1, .ref e2]) n3
      refine ⟨_, _, _, rfl, Dp.same ((sA.trans sB).trans sC) dp, ?_, fits_sets (z := 1) (by decide), fun H' _ => q H'⟩
      refine .tup (SqT.of upd_same) (.cons (.tup (xs := []) (SqT.of (sC _ _ (sB _ _ upd_same))) .nil) (.cons (.tup (xs := [.int 0]) (SqT.of (sC _ _ upd_same)) (.cons (.int 0) .nil)) .nil))
end
end DS
namespace DS
open PySem PySem.Spec PyProof.Rows L2
/-! ### what the top has left -/
structure In1 (K : PySem.W.Frag) (x : Str) (st : Stmt) (f : Addr) (fd : FuncData) : Prop where
  ns : PySem.W.nsIn K mainGlobals x = some (some (.ref f))
  fn : Fun K x x st f fd
theorem in1 {K : PySem.W.Frag} {x : Str} {st : Stmt} {f : Addr} {oc : Value} {od an : Option Addr} {osl : Array (Option Value)} {kV doc pm cdv ct : Value} (a : PySem.W.nsIn K mainGlobals x = some (some (.ref f)))
    (l : K.lookup f = some ⟨oc, od, .func (PySem.W.fnOf x x (defArgs st) (defBody st) (defScope st) .none kV doc pm an cdv ct), osl⟩) (c : PySem.W.codeIn K cdv x = true) (k : PySem.W.keepIn K (.ref f) = true) :
    In1 K x st f (PySem.W.fnOf x x (defArgs st) (defBody st) (defScope st) .none kV doc pm an cdv ct) := ⟨a, fun_mk l c k⟩
theorem all_mk {l : PySem.W.OpenLaw} {w : World} {K : PySem.W.Frag} {h : Heap} {mg : Str → Option Value} {fa fL fD fN fS fM fW fT fG fA : Addr} {dL dD dN dS dM dW dT dG dA : FuncData} (X : K.In h) (G : h.Ns mainGlobals mg) (hfa : mg "law" = some (.ref fa))
    (iD : In1 K "_law_deck" sDeck fD dD)
    (iN : In1 K "_law_next" sNext fN dN)
    (iS : In1 K "_law_same" sSame fS dS)
    (iM : In1 K "_law_mixed" sMixed fM dM)
    (iW : In1 K "_law_won" sWon fW dW)
    (iT : In1 K "_law_table" sTable fT dT)
    (iG : In1 K "_law_digits" sDigits fG dG)
    (iA : In1 K "all_sets" sAll fA dA)
    (iL : In1 K "law" sLaw fL dL)
    (zlen : PySem.W.nsIn K mainGlobals "len" = some none) (zisi : PySem.W.nsIn K mainGlobals "isinstance" = some none) (zlist : PySem.W.nsIn K mainGlobals "list" = some none) (ztuple : PySem.W.nsIn K mainGlobals "tuple" = some none) (zrange : PySem.W.nsIn K mainGlobals "range" = some none) (zstr : PySem.W.nsIn K mainGlobals "str" = some none) (zint : PySem.W.nsIn K mainGlobals "int" = some none) (zbool : PySem.W.nsIn K mainGlobals "bool" = some none) (zabs : PySem.W.nsIn K mainGlobals "abs" = some none) (zrev : PySem.W.nsIn K mainGlobals "reversed" = some none) (zrepr : PySem.W.nsIn K mainGlobals "repr" = some none) (zsorted : PySem.W.nsIn K mainGlobals "sorted" = some none) :
    ∃ fd : FuncData, (∀ (s : Shared) (v : Value), BindsTo s fd ⟨[v], []⟩ [("_law_script", v)]) ∧ ∀ base : Heap, K.In base → base.Ns mainGlobals mg → FnOk l.prog w K mg base CX0 4 fa fd ["_law_script"] (spLaw K) := by
  have e := hfa.symm.trans (PySem.W.mg_of X G iL.ns)
  cases e
  have bD : Binds K dD ["_law_script"] [] := iD.fn.binds fun _ _ _ _ _ _ us hl => match us, hl with | [_], _ => rfl
  have bN : Binds K dN ["_law_deck_here", "_law_many"] [] := iN.fn.binds fun _ _ _ _ _ _ us hl => match us, hl with | [_, _], _ => rfl
  have bS : Binds K dS ["_law_found", "_law_due"] [] := iS.fn.binds fun _ _ _ _ _ _ us hl => match us, hl with | [_, _], _ => rfl
  have bM : Binds K dM ["_law_deck_here", "_law_items"] [] := iM.fn.binds fun _ _ _ _ _ _ us hl => match us, hl with | [_, _], _ => rfl
  have bW : Binds K dW ["_law_deck_here", "_law_way", "_law_one_here", "_law_other"] [] := iW.fn.binds fun _ _ _ _ _ _ us hl => match us, hl with | [_, _, _, _], _ => rfl
  have bT : Binds K dT ["_law_deck_here", "_law_most"] [] := iT.fn.binds fun _ _ _ _ _ _ us hl => match us, hl with | [_, _], _ => rfl
  have bG : Binds K dG ["_law_number", "_law_size"] [] := iG.fn.binds fun _ _ _ _ _ _ us hl => match us, hl with | [_, _], _ => rfl
  have bA : Binds K dA ["table"] [] := iA.fn.binds fun _ _ _ _ _ _ us hl => match us, hl with | [_], _ => rfl
  have bl : Blt mg := ⟨PySem.W.mg_none_of X G zlen, PySem.W.mg_none_of X G zisi, PySem.W.mg_none_of X G zlist, PySem.W.mg_none_of X G ztuple, PySem.W.mg_none_of X G zrange, PySem.W.mg_none_of X G zstr, PySem.W.mg_none_of X G zint, PySem.W.mg_none_of X G zbool⟩
  have tx : Txt4 K mg fD fN fS fM fW fT fG fA dD dN dS dM dW dT dG dA := ⟨iD.fn, bD, PySem.W.mg_of X G iD.ns, iN.fn, bN, PySem.W.mg_of X G iN.ns, iS.fn, bS, PySem.W.mg_of X G iS.ns, iM.fn, bM, PySem.W.mg_of X G iM.ns, iW.fn, bW, PySem.W.mg_of X G iW.ns, iT.fn, bT, PySem.W.mg_of X G iT.ns, iG.fn, bG, PySem.W.mg_of X G iG.ns, iA.fn, bA, PySem.W.mg_of X G iA.ns, bl, PySem.W.mg_none_of X G zabs, PySem.W.mg_none_of X G zrev, PySem.W.mg_none_of X G zrepr, PySem.W.mg_none_of X G zsorted⟩
  refine ⟨dL, fun s v => ?_, fun base _ _ => ok_law iL.fn tx⟩
  have bL : Binds K dL ["_law_script"] [] := iL.fn.binds fun _ _ _ _ _ _ us hl => match us, hl with | [_], _ => rfl
  obtain ⟨oc, od, kV, doc, pm, an, cdv, ct, osl, rfl, lk, hcd⟩ := iL.fn.ex
  exact .of_eq rfl
end DS
open PySem PySem.W PyProof.Rows
set_option maxHeartbeats 0 in
theorem PySem.Challenge.cw_duelsets_k04_all_sets_listed_holds : PySem.Challenge.rw_duelsets_k04_all_sets_listed.Holds := by
  w_on; o_law; k_head; (case hw => w_witness2)
  k_fill
  refine L2.walk_of (l := PySem.Challenge.rw_duelsets_k04_all_sets_listed) (n := 63) (k := 4) (x := "_law_script") (CX := fun _ => L2.CX0) (sp := fun w => DS.spLaw _) rfl (by decide) rfl ⟨rfl, by decide, by decide⟩ (fun w h Y => PySem.W.kIn_of Y) ?F (fun _ _ a ns hl _ hS => ⟨a, ns, rfl, hS, hl, fun _ => rfl⟩) (fun _ _ _ _ _ h => h)
  case F =>
    intro w mg fa h KX G hmg
    refine' DS.all_mk KX G hmg (DS.in1 ?aD ?lD ?cD ?kD) (DS.in1 ?aN ?lN ?cN ?kN) (DS.in1 ?aS ?lS ?cS ?kS) (DS.in1 ?aM ?lM ?cM ?kM) (DS.in1 ?aW ?lW ?cW ?kW) (DS.in1 ?aT ?lT ?cT ?kT) (DS.in1 ?aG ?lG ?cG ?kG) (DS.in1 ?aA ?lA ?cA ?kA) (DS.in1 ?aL ?lL ?cL ?kL) ?zlen ?zisi ?zlist ?ztuple ?zrange ?zstr ?zint ?zbool ?zabs ?zrev ?zrepr ?zsorted
    (case aD => k_is); (case lD => k_is); (case cD => k_is); (case kD => k_is)
    (case aN => k_is); (case lN => k_is); (case cN => k_is); (case kN => k_is)
    (case aS => k_is); (case lS => k_is); (case cS => k_is); (case kS => k_is)
    (case aM => k_is); (case lM => k_is); (case cM => k_is); (case kM => k_is)
    (case aW => k_is); (case lW => k_is); (case cW => k_is); (case kW => k_is)
    (case aT => k_is); (case lT => k_is); (case cT => k_is); (case kT => k_is)
    (case aG => k_is); (case lG => k_is); (case cG => k_is); (case kG => k_is)
    (case aA => k_is); (case lA => k_is); (case cA => k_is); (case kA => k_is)
    (case aL => k_is); (case lL => k_is); (case cL => k_is); (case kL => k_is)
    (case zlen => k_is); (case zisi => k_is); (case zlist => k_is); (case ztuple => k_is); (case zrange => k_is); (case zstr => k_is); (case zint => k_is); (case zbool => k_is); (case zabs => k_is); (case zrev => k_is); (case zrepr => k_is); (case zsorted => k_is)
