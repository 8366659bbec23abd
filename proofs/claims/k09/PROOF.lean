import PyProof.Rows.All
import Wide.All
import OpenK.AllK
import Wide.FinOn
import HandS.ForMost
import HandS.IsInst
import HandS.Wide
import HandS.Strs
import HandS.SetTxt0
import HandS.Set
import HandS.SetTxtIn
import HandS.Exc
import HandS.TryOnly
import HandS.ExcOwn
import HandS.WordsExc
import PyProof.ReprReads
import PyProof.Rows.StrCut
import HandS.StrMore
import HandS.Walk
import HandS.SortKw
import KE.SortKeyHeap
import HandS.Defaults
import HandS.Style
import PySem.Challenge.RW_whatcounts_k09_whole_free_patterns_and_n
set_option Elab.async false
set_option linter.all false
set_option maxRecDepth 100000
set_option maxHeartbeats 3200000
/-! sets of texts: made of a text, sorted -/
namespace Tx
open PySem PySem.Spec PyProof.Rows L2

/-- the text that an entry holds -/
def tx (e : Int × Value) : Str := match e.2 with
  | .str y _ => y
  | _ => Str.empty
/-- an entry of a set of texts -/
def Ent (w : World) (e : Int × Value) : Prop := ∃ y u, e.2 = Value.str y u ∧ e.1 = hashStr w y

/-- at a stands a set whose members are the texts ys, in some order -/
def At (w : World) (h : Heap) (a : Addr) (ys : List Str) : Prop :=
  ∃ (o : Obj) (es : Array (Int × Value)) (ep : Nat) (t : SetTable), h.get? a = some o ∧ o.ExactSet ∧ o.data = .set es ep t ∧
    (∀ e ∈ es.toList, Ent w e) ∧ (es.toList.map tx).Perm ys ∧ es.size < scanBound ∧ t.fits es.size = true ∧
    Ris t.place.toList ∧ (w.params.followText "set-order" = true ∨ t.led = true)

section
variable {P : Program} {w : World} {h h' : Heap} {a : Addr} {ys : List Str}
theorem At.stays (R : At w h a ys) (k : ∀ o, h.get? a = some o → h'.get? a = some o) : At w h' a ys :=
  let ⟨o, es, ep, t, ho, r⟩ := R
  ⟨o, es, ep, t, k o ho, r⟩
theorem Ent.elems {l : List (Int × Value)} (g : ∀ e ∈ l, Ent w e) : ElemsOf (strKind P w) l := by
  intro e he
  obtain ⟨y, u, q1, q2⟩ := g e he
  refine ⟨⟨y, ?_, q2⟩, ?_⟩
  · rw [q1]
    exact Froz.is_str y u
  · rw [q1]
    rfl
theorem Ent.is {e : Int × Value} (g : Ent w e) (k : Str) : (strKind P w).is k e.2 = true ↔ tx e = k := by
  obtain ⟨y, u, q1, _⟩ := g
  unfold tx
  rw [q1]
  constructor
  · intro q
    exact ((strKind P w).inj (.str y u) k y q (Froz.is_str y u)).symm
  · intro q
    subst q
    exact Froz.is_str _ u
theorem Ent.mem {l : List (Int × Value)} (g : ∀ e ∈ l, Ent w e) (k : Str) : k ∈ l.map tx ↔ ∃ e ∈ l, (strKind P w).is k e.2 = true := by
  rw [List.mem_map]
  exact ⟨fun ⟨e, he, q⟩ => ⟨e, he, ((g e he).is k).mpr q⟩, fun ⟨e, he, q⟩ => ⟨e, he, ((g e he).is k).mp q⟩⟩
end

section
variable {P : Program} {w : World} {A : Around} {E : Value → Shared → Prop} {s : Shared} {a : Addr} {ys : List Str}
theorem add_tail {g : Bool → Sem Unit} (hg : ∀ (b : Bool) (z : Shared) (R : Unit → Shared → Prop), R () z → wpAny (model P w) A (g b) R E z)
    {o : Obj} {es : Array (Int × Value)} {ep : Nat} {t : SetTable} (ho : s.heap.get? a = some o) (hx : o.ExactSet) (hd : o.data = .set es ep t)
    {es1 : Array (Int × Value)} {t2 : SetTable} (g1 : ∀ e ∈ es1.toList, Ent w e) (m1 : (es1.toList.map tx).Perm ys)
    (hb1 : es1.size < scanBound) (hf2 : t2.fits es1.size = true) (hr : Ris t2.place.toList) (hl : w.params.followText "set-order" = true ∨ t2.led = true)
    {was : Bool} {R : Option Bool → Shared → Prop}
    (hR : ∀ h', Heap.SameBut a s.heap h' → At w h' a ys → R (some true) { s with heap := h' }) :
    wpAny (model P w) A (do
        storeSet a es1 t2
        if (!was && t2.tooFull) = true then do
            g (relayAll t2 es1 (SetTable.grown es1.size)).2.2
            storeSet a (relayAll t2 es1 (SetTable.grown es1.size)).1 (relayAll t2 es1 (SetTable.grown es1.size)).2.1
            pure (some true)
          else pure (some true)) R E s := by
  refine wpAny_bind (wpAny_storeSet_of ho hd ?_ (fits_of_scanBound hb1))
  have q1 := store_at (es' := es1) (t' := t2) ho hd
  have sb := Heap.SameBut.update s.heap a (Obj.putSet es1 t2)
  split
  · have p3 := relayAll_perm t2 es1 (SetTable.grown es1.size)
    have f3 := relayAll_fits t2 es1 (SetTable.grown es1.size)
    have r3 := relayAll_ris t2 es1 (SetTable.grown es1.size)
    have l3 := relayAll_led t2 es1 (SetTable.grown es1.size)
    generalize relayAll t2 es1 (SetTable.grown es1.size) = Z at p3 f3 r3 l3 ⊢
    obtain ⟨es2, t3, gave⟩ := Z
    dsimp only at p3 f3 r3 l3 ⊢
    have z2 : es2.size = es1.size := by
      have := p3.length_eq
      rw [Array.length_toList, Array.length_toList] at this
      exact this
    refine wpAny_bind (hg _ _ _ ?_)
    refine wpAny_bind (wpAny_storeSet_of q1 rfl ?_ (fits_of_scanBound (by rw [z2]; exact hb1)))
    have q2 := store_at (es' := es2) (t' := t3) q1 rfl
    refine wpAny_pure (hR _ (sb.trans (Heap.SameBut.update _ a _)) ?_)
    exact ⟨_, es2, _, t3, q2, hx, rfl, fun e he => g1 e (p3.mem_iff.mp he), (p3.map tx).trans m1, by rw [z2]; exact hb1, f3, r3, hl.imp id fun z => l3.trans z⟩
  · exact wpAny_pure (hR _ sb ⟨_, es1, _, t2, q1, hx, rfl, g1, m1, hb1, hf2, hr, hl⟩)

theorem add_hashed {k : Str} {u : Tok} {Q : Bool → Shared → Prop} (R : At w s.heap a ys) (room : ys.length + 1 < scanBound)
    (hQ : ∀ h', Heap.SameBut a s.heap h' → At w h' a (if k ∈ ys then ys else k :: ys) → Q (!decide (k ∈ ys)) { s with heap := h' }) :
    wpAny (model P w) A (setAddHashed a (.str k u) (hashStr w k)) Q E s := by
  obtain ⟨o, es, ep, t, ho, hx, hd, g, pm, hb, hf, hr, hl⟩ := R
  have hkey : (strKind P w).is k (.str k u) = true := Froz.is_str k u
  have hel : ElemsOf (strKind P w) es.toList := Ent.elems g
  have hz : es.size = ys.length := by
    have := pm.length_eq
    rw [List.length_map, Array.length_toList] at this
    exact this
  unfold setAddHashed setAddHashedIn
  refine wpAny_holding (wpAny_bind (wpAny_setState_of ho hd hf ?_))
  dsimp only
  rw [byScan_of (x := Value.str k u) rfl hb hel]
  simp only [↓reduceIte]
  unfold setAddByScan
  refine wpAny_bind ?_
  refine wpAny_bind (wpAny_rule ?_)
  refine wpAny_bind (wpAny_setScan_of (knd := strKind P w) (k := k) hkey ho hd hf hel ?_)
  cases hfi : List.findIdx? (fun e => (strKind P w).is k e.2) es.toList with
  | some j =>
    dsimp only
    obtain ⟨hj, pj, _⟩ := List.findIdx?_eq_some_iff_getElem.mp hfi
    have hk : k ∈ ys := pm.mem_iff.mp ((Ent.mem (P := P) g k).mpr ⟨es.toList[j], List.getElem_mem hj, pj⟩)
    refine wpAny_pure (wpAny_pure ?_)
    have q := hQ s.heap (Heap.SameBut.refl a s.heap) (by rw [if_pos hk]; exact ⟨o, es, ep, t, ho, hx, hd, g, pm, hb, hf, hr, hl⟩)
    rw [decide_eq_true hk] at q
    exact q
  | none =>
    dsimp only
    have hk : k ∉ ys := fun z => by
      obtain ⟨e, he, q⟩ := (Ent.mem (P := P) g k).mp (pm.mem_iff.mpr z)
      have c := List.findIdx?_eq_none_iff.mp hfi e he
      rw [q] at c
      cases c
    have hgw : ∀ (b : Bool) {z : Shared} {R : Unit → Shared → Prop}, R () z → wpAny (model P w) A (match b with | true => rule "set.scan.the-table-gave-way" | false => pure ()) R E z := by
      intro b z R q
      cases b
      · exact wpAny_pure q
      · exact wpAny_rule q
    have p1 := layNew_perm t es (hashStr w k) (.str k u)
    have f1 := layNew_fits t es (hashStr w k) (.str k u)
    have r1 := layNew_ris t es (hashStr w k) (.str k u) hr
    have l1 := layNew_led t es (hashStr w k) (.str k u)
    generalize layNew t es (hashStr w k) (.str k u) = Z at p1 f1 r1 l1 ⊢
    obtain ⟨es1, t1, was, gave⟩ := Z
    dsimp only at p1 f1 r1 l1 ⊢
    rw [Array.toList_push] at p1
    have pc : es1.toList.Perm ((hashStr w k, Value.str k u) :: es.toList) := p1.trans (List.perm_append_singleton _ _)
    have pk : (es1.toList.map tx).Perm (k :: ys) := (pc.map tx).trans (List.Perm.cons k pm)
    have g1 : ∀ e ∈ es1.toList, Ent w e := by
      intro e he
      cases List.mem_cons.mp (pc.mem_iff.mp he) with
      | inl z => exact ⟨k, u, by rw [z], by rw [z]⟩
      | inr z => exact g e z
    have hb1 : es1.size < scanBound := by
      have e1 : es1.size = ys.length + 1 := by
        have := pk.length_eq
        rw [List.length_map, Array.length_toList] at this
        exact this
      rw [e1]
      exact room
    have hld : w.params.followText "set-order" = true ∨ t1.led = true := hl.imp id fun z => l1.trans z
    have fin : ∀ h', Heap.SameBut a s.heap h' → At w h' a (k :: ys) → Q true { s with heap := h' } := by
      intro h' sb r
      have q := hQ h' sb (by rw [if_neg hk]; exact r)
      rw [decide_eq_false hk] at q
      exact q
    refine wpAny_bind (hgw _ ?_)
    split
    · refine wpAny_bind ?_
      rw [hashByValue_scannable 8 (x := Value.str k u) rfl]
      refine wpAny_pure ?_
      refine add_tail (ys := k :: ys) ?_ ho hx hd g1 pk hb1 ?_ ?_ ?_ ?_
      · intro b z R q
        cases b
        · exact wpAny_pure q
        · exact wpAny_rule q
      · first | (split <;> first | exact f1 | exact SetTable.fits_plain_off f1) | exact f1
      · first | (split <;> exact r1) | exact r1
      · first | (split <;> exact hld) | exact hld
      · intro h' sb r
        dsimp only
        exact wpAny_pure (fin h' sb r)
    · refine wpAny_bind (wpAny_pure ?_)
      simp only [↓reduceIte]
      refine add_tail (ys := k :: ys) ?_ ho hx hd g1 pk hb1 f1 r1 hld ?_
      · intro b z R q
        cases b
        · exact wpAny_pure q
        · exact wpAny_rule q
      · intro h' sb r
        dsimp only
        exact wpAny_pure (fin h' sb r)
end

/-! ### the signs of a text, each once -/
abbrev one (c : Nat) : Str := ⟨#[c]⟩
theorem one_inj {c d : Nat} (h : one c = one d) : c = d := by
  have q : [c] = [d] := congrArg (fun y : Str => y.cps.toList) h
  exact (List.cons.inj q).1
/-- the members behind the first signs -/
def met : List Nat → List Nat → List Nat
  | acc, [] => acc
  | acc, c :: r => met (if c ∈ acc then acc else c :: acc) r
theorem met_len (l : List Nat) : ∀ acc : List Nat, (met acc l).length ≤ acc.length + l.length := by
  induction l with
  | nil => intro acc; exact Nat.le_refl _
  | cons c r ih =>
    intro acc
    have h := ih (if c ∈ acc then acc else c :: acc)
    show (met (if c ∈ acc then acc else c :: acc) r).length ≤ acc.length + (r.length + 1)
    split at h <;> rename_i hc
    · rw [if_pos hc]; omega
    · rw [if_neg hc]
      rw [List.length_cons] at h
      omega
theorem met_mem (l : List Nat) : ∀ (acc : List Nat) (c : Nat), c ∈ met acc l ↔ c ∈ acc ∨ c ∈ l := by
  induction l with
  | nil => intro acc c; simp [met]
  | cons d r ih =>
    intro acc c
    show c ∈ met (if d ∈ acc then acc else d :: acc) r ↔ _
    rw [ih]
    by_cases hd : d ∈ acc
    · rw [if_pos hd, List.mem_cons]
      constructor
      · rintro (q | q)
        · exact .inl q
        · exact .inr (.inr q)
      · rintro (q | q | q)
        · exact .inl q
        · exact .inl (q ▸ hd)
        · exact .inr q
    · rw [if_neg hd, List.mem_cons, List.mem_cons]
      constructor
      · rintro ((q | q) | q)
        · exact .inr (.inl q)
        · exact .inl q
        · exact .inr (.inr q)
      · rintro (q | q | q)
        · exact .inl (.inr q)
        · exact .inl (.inl q)
        · exact .inr q
theorem met_nodup (l : List Nat) : ∀ acc : List Nat, acc.Nodup → (met acc l).Nodup := by
  induction l with
  | nil => intro acc h; exact h
  | cons d r ih =>
    intro acc h
    refine ih _ ?_
    by_cases hd : d ∈ acc
    · rw [if_pos hd]; exact h
    · rw [if_neg hd]; exact List.nodup_cons.mpr ⟨hd, h⟩
theorem met_mono (l : List Nat) : ∀ (acc : List Nat), acc.length ≤ (met acc l).length := by
  induction l with
  | nil => intro acc; exact Nat.le_refl _
  | cons d r ih =>
    intro acc
    refine Nat.le_trans ?_ (ih _)
    by_cases hd : d ∈ acc
    · rw [if_pos hd]; exact Nat.le_refl _
    · rw [if_neg hd]; exact Nat.le_succ _
theorem mem_one {c : Nat} {l : List Nat} : one c ∈ l.map one ↔ c ∈ l := by
  rw [List.mem_map]
  exact ⟨fun ⟨d, hd, q⟩ => one_inj q ▸ hd, fun q => ⟨c, q, rfl⟩⟩

section
variable {P : Program} {w : World} {A : Around} {R : Result → Shared → Prop} {I : Addr} {fp wr : List Addr} {St : Nat → Heap → Prop} {x : Str}
/-- the making: sign by sign into the set at S -/
theorem loop (W : Walks P w A.in1 I fp wr x.cps.size (SignAt x) St) (S : Addr) (hS : S ∉ fp) (hfew : (met [] x.cps.toList).length + 1 < scanBound) :
    ∀ (r : List Nat) (i : Nat) (acc : List Nat) (s : Shared), x.cps.toList.drop i = r → i ≤ x.cps.size → met acc r = met [] x.cps.toList → St i s.heap → At w s.heap S (acc.map one) →
      (∀ h' tk, (∀ b o, b ≠ S → b ∉ wr → s.heap.get? b = some o → h'.get? b = some o) → At w h' S ((met [] x.cps.toList).map one) → R (.ok (.ret .none)) { s with heap := h', toks := tk }) →
      codeAny (model P w) A (.builtin "set.update.loop" ⟨[.ref S, .ref I], []⟩) R s := by
  have hSw : S ∉ wr := fun z => hS (W.sub _ z)
  intro r
  induction r with
  | nil =>
    intro i acc s hr hi hm hst hat hR
    have hin : i = x.cps.size := by
      have := List.drop_eq_nil_iff.mp hr
      rw [Array.length_toList] at this
      omega
    subst hin
    refine codeAny_builtin PyProof.Rows.F.entry_set_update_loop ?_
    rw [Around.under_plainId PyProof.Rows.F.plain_set_update_loop _]
    show wpAny _ A.in1 (pyNext (.ref I) >>= _) _ _ s
    refine wpAny_bind (W.done s _ _ hst fun h' tk k => ?_)
    show wpAny _ A.in1 (ret Value.none) _ _ _
    refine wpAny_pure (hR h' tk (fun b o _ hb e => k b o hb e) ?_)
    have e : acc = met [] x.cps.toList := hm
    rw [← e]
    exact hat.stays fun o e => k S o hSw e
  | cons c r ih =>
    intro i acc s hr hi hm hst hat hR
    obtain ⟨hx, hr2⟩ := Froz.at_of hr
    have hlt : i < x.cps.size := by
      rcases Nat.lt_or_ge i x.cps.size with z | z
      · exact z
      · rw [Array.getElem?_eq_none z] at hx
        cases hx
    refine codeAny_builtin PyProof.Rows.F.entry_set_update_loop ?_
    rw [Around.under_plainId PyProof.Rows.F.plain_set_update_loop _]
    show wpAny _ A.in1 (pyNext (.ref I) >>= _) _ _ s
    refine wpAny_bind (W.item i s _ _ hlt hst fun v h1 tk1 hv hst1 k1 => ?_)
    obtain ⟨d, u, hd, rfl⟩ := hv
    have ed : d = c := Option.some.inj (hd.symm.trans hx)
    subst ed
    have hat1 : At w h1 S (acc.map one) := hat.stays fun o e => k1 S o hSw e
    show wpAny _ A.in1 (holding [Value.str (one d) u] (setAdd S (.str (one d) u)) >>= _) _ _ _
    refine wpAny_bind (wpAny_holding ?_)
    unfold setAdd
    refine wpAny_holding ?_
    refine wpAny_bind ((strKind P w).pyHash (k := one d) (Froz.is_str _ _) ?_)
    have hlen : (acc.map one).length + 1 < scanBound := by
      rw [List.length_map]
      have := met_mono (d :: r) acc
      rw [hm] at this
      omega
    refine add_hashed (ys := acc.map one) (s := { s with heap := h1, toks := tk1 + 1 }) hat1 hlen fun h2 sb hat2 => ?_
    have e2 : (if one d ∈ acc.map one then acc.map one else one d :: acc.map one) = (if d ∈ acc then acc else d :: acc).map one := by
      by_cases z : d ∈ acc
      · rw [if_pos z, if_pos (mem_one.mpr z)]
      · rw [if_neg z, if_neg (fun q => z (mem_one.mp q))]
        rfl
    rw [e2] at hat2
    have k2 : ∀ b o, b ≠ S → h1.get? b = some o → h2.get? b = some o := fun b o hb e => (sb.2 b hb).trans e
    refine wpAny_pure ⟨plainId_quiet PyProof.Rows.F.plain_set_update_loop _, ih (i + 1) _ _ hr2 hlt hm (W.frame _ _ _ hst1 fun b hb o e => k2 b o (fun z => hS (z ▸ hb)) e) hat2 fun h3 tk3 k3 hat3 => ?_⟩
    exact hR h3 tk3 (fun b o hb hw e => k3 b o hb hw (k2 b o hb (k1 b o hw e))) hat3
end
end Tx
set_option Elab.async false
set_option linter.all false
set_option maxRecDepth 100000
set_option maxHeartbeats 3200000
/-! sets of texts: set(a text), sorted(it), as calls -/
namespace Tx
open PySem PySem.Spec PyProof.Rows L2

section
variable {P : Program} {w : World} {A : Around} {E : Value → Shared → Prop} {s : Shared}
theorem fresh_at (w : World) (h : Heap) (led : Bool) (hl : w.params.followText "set-order" = true ∨ led = true) :
    At w (h.push { cls := .type "set", dict := none, data := .set #[] 0 (.fresh 0 0 led) }) h.objs.size ([] : List Str) :=
  ⟨_, #[], 0, .fresh 0 0 led, Heap.get?_push_size _ rfl, ⟨rfl, rfl, rfl⟩, rfl, (fun e he => by simp at he), by simp, by decide, by rfl, List.Pairwise.nil, hl⟩

/-- a new set, as set.__new__ lays it -/
theorem new_set (v : Value) {R : Value → Shared → Prop}
    (h : R (.ref s.heap.objs.size) { s with heap := s.heap.push { cls := .type "set", dict := none, data := .set #[] 0 (.fresh 0 0 (!w.params.followText "set-order")) } }) :
    codeAny (model P w) A (.call (.builtin "set.__new__") ⟨[.type "set", v], []⟩) (wants R E) s := by
  refine codeAny_of_tree ?_
  show wpAny _ A.in1 (do
    checkBuiltinCall "set.__new__" ⟨[.type "set", v], []⟩
    again (.builtin "set.__new__" ⟨[.type "set", v], []⟩)) _ _ s
  refine wpAny_bind (wpAny_of_eq (F.newCall_set_1 v) (wpAny_pure ⟨plainId_quiet F.plain_set_new _, codeAny_builtin F.entry_set_new ?_⟩))
  rw [Around.under_plainId F.plain_set_new _]
  unfold Builtin.«set.__new__»
  unfold Builtin.Frozenset.newClass
  have hsub := sub_set_self
  obtain ⟨hp, g, d, tk, os⟩ := s
  dsimp only
  wp_walk
  refine wpAny_askSetting (wpAny_pure ?_)
  dsimp only
  simp only [newObj]
  exact wpAny_bind (wpAny_alloc (wpAny_pure (wpAny_pure h)))

theorem call_set_text {x : Str} {t : Tok} {Q : Value → Shared → Prop} (hh : A.handled = none) (hfew : (met [] x.cps.toList).length + 1 < scanBound)
    (h : ∀ (h' : Heap) (tk : Nat), At w h' s.heap.objs.size ((met [] x.cps.toList).map one) → (∀ b o, s.heap.get? b = some o → h'.get? b = some o) → Q (.ref s.heap.objs.size) { s with heap := h', toks := tk }) :
    wpAny (model P w) A (call (.type "set") [.str x t]) Q E s := by
  obtain ⟨c, tl, hmro⟩ := PySem.F.called_set.mro
  have hmade := PySem.F.called_set.made
  have hsub := PySem.F.called_set.sub
  refine wpAny_call (codeAny_of_tree ?_)
  show wpAny _ _ (callAny (.type "set") _) _ _ _
  refine wpAny_pure ⟨Code.quiet_builtin _ (by decide +kernel), codeAny_builtin PySem.F.entry_type_call ?_⟩
  rw [Around.under_plain (weight_type_call_type "set" [.str x t] []) rfl]
  have h1 := PySem.F.called_set.notType
  have h2 := PySem.F.called_set.canCreate
  have hct := PySem.F.typeCall_set_1 (.str x t)
  repeat (any_goals (first | assumption | wp_step))
  refine codeAny_mono (new_set (P := P) (w := w) (E := E) (.str x t) (R := fun obj z => ∃ led : Bool, (w.params.followText "set-order" = true ∨ led = true) ∧ obj = .ref s.heap.objs.size ∧ z = { s with heap := s.heap.push { cls := .type "set", dict := none, data := .set #[] 0 (.fresh 0 0 led) } }) ⟨_, ?_, rfl, rfl⟩) fun r z hr => ?_
  · cases w.params.followText "set-order"
    · exact .inr rfl
    · exact .inl rfl
  cases r with
  | error e => exact hr
  | ok fl =>
    cases fl with
    | ret obj =>
      obtain ⟨led, hled, rfl, rfl⟩ := hr
      have hS : (s.heap.push { cls := .type "set", dict := none, data := .set #[] 0 (.fresh 0 0 led) }).get? s.heap.objs.size = some { cls := .type "set", dict := none, data := .set #[] 0 (.fresh 0 0 led) } := Heap.get?_push_size _ rfl
      have hT : Shared.TypeIs { s with heap := s.heap.push { cls := .type "set", dict := none, data := .set #[] 0 (.fresh 0 0 led) } } (.ref s.heap.objs.size) "set" := ⟨_, hS, rfl⟩
      have hli := PySem.F.called_set.init.lookup
      have hbi := PySem.F.called_set.init.bind (.ref s.heap.objs.size)
      repeat (any_goals (first | assumption | wp_step))
      refine codeAny_mono (codeAny_call_builtin (R := wants (fun r z => r = .none ∧ ∃ h' tk, z = { s with heap := h', toks := tk } ∧ At w h' s.heap.objs.size ((met [] x.cps.toList).map one) ∧
          (∀ b o, s.heap.get? b = some o → h'.get? b = some o)) E) PySem.F.called_set.init.plain PySem.F.entry_set_init (check_set_init_1 hT ?_)) fun r₂ s₂ hr₂ => ?_
      · unfold Builtin.«set.__init__» noKeywords Builtin.Frozenset.updateFrom
        generalize hPI : pyIter = PI
        generalize hAS : Builtin.Frozenset.isAnySet = AS
        wp_walk
        subst hPI
        subst hAS
        refine L2.Fz.anySet ?_
        simp only [Bool.false_eq_true, ↓reduceIte]
        refine wpAny_bind (wpAny_typeOf (typeIs_str _ _ _) ?_)
        have hsd : (Value.type "str" == Value.type "dict") = false := by decide
        simp only [hsd, Bool.false_eq_true, ↓reduceIte]
        refine wpAny_bind (wpAny_pyIter_str fun o St W hst => ?_)
        refine wpAny_bind (wpAny_runValue ?_)
        have hne : s.heap.objs.size ∉ [(s.heap.push { cls := .type "set", dict := none, data := .set #[] 0 (.fresh 0 0 led) }).objs.size] := by
          rw [Heap.size_push, List.mem_singleton]
          exact Nat.ne_of_lt (Nat.lt_succ_self _)
        refine loop (W _ (by simp [hh])) s.heap.objs.size hne hfew _ 0 [] _ (by rfl) (Nat.zero_le _) rfl hst ?_ ?_
        · exact (fresh_at w s.heap led hled).stays fun o e => Heap.get?_push_of_some _ e
        · intro h' tk k hat
          refine wpAny_pure ?_
          show wpAny _ _ (ret Value.none) _ _ _
          refine wpAny_pure ⟨rfl, h', tk, rfl, hat, fun b o e => ?_⟩
          have hb := Heap.lt_size e
          refine k b o (Nat.ne_of_lt hb) ?_ (Heap.get?_push_of_some _ (Heap.get?_push_of_some _ e))
          rw [Heap.size_push, List.mem_singleton]
          exact Nat.ne_of_lt (Nat.lt_succ_of_lt hb)
      · cases r₂ with
        | error e => exact hr₂
        | ok fl₂ =>
          cases fl₂ with
          | ret r =>
            obtain ⟨rfl, h', tk, rfl, hS', hk'⟩ := hr₂
            repeat (any_goals (first | assumption | wp_step))
            exact h _ _ hS' hk'
          | _ => exact hr₂.elim
    | _ => exact hr.elim

/-! ### sorted(a set of one-sign texts) -/
theorem vals_strs {vs : List Value} : ∀ {es : List (Int × Value)}, (∀ e ∈ es, Ent w e) → vs.Perm (es.map (·.2)) → StrsAre vs (vs.map strOf) ∧ (vs.map strOf).Perm (es.map tx) := by
  intro es g p
  refine ⟨strsAre_map vs fun v hv => ?_, ?_⟩
  · obtain ⟨e, he, q⟩ := List.mem_map.mp (p.mem_iff.mp hv)
    obtain ⟨y, u, q1, _⟩ := g e he
    exact ⟨y, u, by rw [← q]; exact q1⟩
  · have q := p.map strOf
    rw [List.map_map] at q
    have e : es.map (strOf ∘ (·.2)) = es.map tx := List.map_congr_left fun e he => by
      obtain ⟨y, u, q1, _⟩ := g e he
      show strOf e.2 = tx e
      unfold tx
      rw [q1]
      rfl
    rw [e] at q
    exact q
theorem pairwise_of_sortedS : ∀ (l : List Str), sortedS l = true → l.Pairwise (fun a b => ltCps b.cps.toList a.cps.toList = false) := by
  have trans : ∀ a b c : List Nat, ltCps b a = false → ltCps c b = false → ltCps c a = false := by
    intro a b c h1 h2
    rw [ltCps_eq] at h1 h2 ⊢
    have h1' := of_decide_eq_false h1
    have h2' := of_decide_eq_false h2
    refine decide_eq_false fun z => ?_
    have n1 : a ≤ b := List.not_lt.mp h1'
    have n2 : b ≤ c := List.not_lt.mp h2'
    exact absurd z (List.not_lt.mpr (List.le_trans n1 n2))
  have all : ∀ (l : List Str) (p : Str), risingS p l = true → (p :: l).Pairwise (fun a b => ltCps b.cps.toList a.cps.toList = false) := by
    intro l
    induction l with
    | nil => intro p _; exact List.pairwise_singleton _ _
    | cons x r ih =>
      intro p h
      have h' : (!ltCps x.cps.toList p.cps.toList && risingS x r) = true := h
      rw [Bool.and_eq_true, Bool.not_eq_true'] at h'
      have q := ih x h'.2
      refine List.pairwise_cons.mpr ⟨fun y hy => ?_, q⟩
      rcases List.mem_cons.mp hy with z | z
      · rw [z]; exact h'.1
      · exact trans _ _ _ h'.1 ((List.pairwise_cons.mp q).1 y z)
  intro l h
  cases l with
  | nil => exact List.Pairwise.nil
  | cons x r => exact all r x h
theorem lt_one {c d : Nat} (h : ltCps (one d).cps.toList (one c).cps.toList = false) : c ≤ d := by
  rw [ltCps_eq] at h
  have q := of_decide_eq_false h
  rcases Nat.lt_or_ge d c with z | z
  · exact absurd (show [d] < [c] from List.cons_lt_cons_iff.mpr (.inl z)) q
  · exact z
/-- sorted one-sign texts, each once, are a rising row of signs -/
theorem rising {ss : List Str} {acc : List Nat} (p : ss.Perm (acc.map one)) (hs : sortedS ss = true) (hn : acc.Nodup) : ∃ ns : List Nat, ss = ns.map one ∧ ns.Perm acc ∧ ns.Pairwise (· < ·) := by
  have back : ∀ l : List Nat, (l.map one).map (fun y => y.cps.toList.headD 0) = l := by
    intro l
    rw [List.map_map]
    exact (List.map_congr_left fun c _ => rfl).trans (List.map_id l)
  have e : ss = (ss.map (fun y => y.cps.toList.headD 0)).map one := by
    rw [List.map_map]
    refine ((List.map_congr_left fun y hy => ?_).trans (List.map_id ss)).symm
    obtain ⟨c, _, q⟩ := List.mem_map.mp (p.mem_iff.mp hy)
    subst q
    rfl
  have pm : (ss.map (fun y => y.cps.toList.headD 0)).Perm acc := by
    have q := p.map (fun y => y.cps.toList.headD 0)
    rw [back] at q
    exact q
  refine ⟨_, e, pm, ?_⟩
  generalize ss.map (fun y => y.cps.toList.headD 0) = ns at e pm ⊢
  subst e
  have h1 := List.pairwise_map.mp (pairwise_of_sortedS _ hs)
  have h2 : ns.Nodup := pm.nodup_iff.mpr hn
  have h3 : ns.Pairwise (· ≠ ·) := h2
  refine List.Pairwise.imp₂ (fun x y a b => ?_) h1 h3
  have c := lt_one a
  omega

theorem sorted_text {a : Addr} {acc : List Nat} {Q : Value → Shared → Prop} (R : At w s.heap a (acc.map one)) (hn : acc.Nodup) (hh : A.handled = none) (h64 : acc.length < 64)
    (hQ : ∀ z p (out : Array Value) (c : Nat) (ns : List Nat), (∀ b o, s.heap.get? b = some o → z.heap.get? b = some o) → z.gens = s.gens → z.os = s.os → s.heap.objs.size ≤ p →
      z.heap.get? p = some (seqObj "list" out c) → StrsAre out.toList (ns.map one) → ns.Pairwise (· < ·) → ns.Perm acc → Q (.ref p) z) :
    wpAny (model P w) A (call (.builtin "sorted") [.ref a]) Q E s := by
  obtain ⟨o, es, ep, t, ho, hx, hd, g, pm, hb, hf, hr, hl⟩ := R
  refine Calls.call_function_entry kind_sorted plain_sorted entry_sorted (args_sorted1 _) ?_
  unfold Builtin.«sorted»
  refine wpAny_bind (m := checkCount "sorted" 1 1 _) (wpAny_pure ?_)
  refine wpAny_bind (collect_set (A := A.in1) hh ⟨o, ho, hx.1, hd⟩ hf hb hr hl fun s1 vs k1 hz g1 o1 pv => ?_)
  obtain ⟨hS, ps⟩ := vals_strs (w := w) g pv
  have ps2 := ps.trans pm
  have hvl : vs.length < 64 := by
    have q := ps2.length_eq
    rw [List.length_map, List.length_map] at q
    rw [q]; exact h64
  refine wpAny_bind (wpAny_newList ?_ (by rw [sizeLine_eq]; omega))
  have hoL : (s1.heap.push (seqObj "list" vs.toArray 0)).get? s1.heap.objs.size = some (seqObj "list" vs.toArray 0) := Heap.get?_push_size _ rfl
  refine wpAny_bind (wpAny_holding (wpAny_call_entry slot_list_sort ⟨_, hoL, rfl⟩ entry_list_sort
    (list_sort_treeK strKind_oneLt hoL hS.keysOf (fun v₁ v₂ rest e => keyKind_strs (by rw [← e]; exact hS)) hvl fun st' hp hs => ⟨_, rfl, ?_⟩) (args_list_sort _)))
  obtain ⟨ss, b1, b2, b3⟩ := sorted_out_str hS hp hs
  obtain ⟨ns, e, pn, ris⟩ := rising (b2.trans ps2) b3 hn
  subst e
  obtain ⟨c, hc⟩ := sortedHeap_at (vs := vs) (out := (arrOf st').map (·.2)) hoL
  refine wpAny_pure ⟨_, rfl, hQ _ s1.heap.objs.size _ c ns (fun b u e => ?_) g1 o1 hz hc b1 ris pn⟩
  have q := k1 b u e
  have hlt := Heap.lt_size q
  show (sortedHeap (s1.heap.push (seqObj "list" vs.toArray 0)) s1.heap.objs.size vs _).get? b = some u
  rw [sortedHeap_old (Nat.ne_of_lt hlt) (by rw [size_push']; exact Nat.lt_succ_of_lt hlt)]
  exact Heap.get?_push_of_some _ q
end
end Tx
set_option Elab.async false
set_option linter.all false
set_option maxRecDepth 100000
set_option maxHeartbeats 3200000
/-! defs that show data by repr: what is known of a call's guards goes along -/
namespace Tg
open PySem PySem.Spec PyProof.Rows L2

/-- nothing is being shown where the call stands -/
abbrev Still (A : Around) : Prop := A.guards = some []

/-- a def's promise, kept where nothing is being shown -/
structure Kept (P : Program) (w : World) (K : PySem.W.Frag) (mg : Str → Option Value) (base : Heap) (cx : CXT) (k : Nat) (f : Addr) (fd : FuncData) (ps : List Str) (sp : Sp) : Prop where
  long : ∀ xs H Q E, sp xs H Q E → xs.length = ps.length
  goes : ∀ (A : Around) (out : List Env) (s : Shared) (H : Hp) (args : Args) (us : List Value) (xs : List V) (Q : VK) (E : XK), Room k A → Still A → Env0 P w K mg base A out s H →
    BindsTo s fd args (ps.zip us) → Vals xs us → sp xs H Q E → codeAny (model P w) A (.call (.ref f) args) (CR cx out P w H s Q E) s

section
variable {P : Program} {w : World} {K : PySem.W.Frag} {mg : Str → Option Value} {base : Heap}
theorem Kept.ok {cx : CXT} {k : Nat} {f : Addr} {name qual : Str} {params : Arguments} {body : List Stmt} {scope : Scope} {dV kV doc pm cdv ct oc : Value} {an od : Option Addr}
    {osl : Array (Option Value)} {N ps : List Str} {sp : Sp}
    (look : K.lookup f = some ⟨oc, od, .func (PySem.W.fnOf name qual params body scope dV kV doc pm an cdv ct), osl⟩)
    (code : PySem.W.codeIn K cdv qual = true) (S : FnScope N ps scope) (long : ∀ xs H Q E, sp xs H Q E → xs.length = ps.length)
    (inner : ∀ (A : Around) (out : List Env) (s : Shared) (H : Hp) (xs : List V) (Q : VK) (E : XK), Room k (A.deeper (envOfC qual scope s.heap.objs.size f cdv)) →
      Still (A.deeper (envOfC qual scope s.heap.objs.size f cdv)) → sp xs H Q E →
      ∃ t, PSs (cxOf cx P w K mg base N qual scope f cdv A out s H E) body t ∧ t { nx := fun _ H2 => Q .non H2, rt := Q } (start N xs) H) :
    Kept P w K mg base cx (k + 1) f (PySem.W.fnOf name qual params body scope dV kV doc pm an cdv ct) ps sp where
  long := long
  goes := by
    intro A out s H args us xs Q E room still e0 bound rel hsp
    have hl := long _ _ _ _ hsp
    have inK : K.In s.heap := e0.mod.kin.keeps fun b o e => (e0.bs b o e).1
    have limit : s.heap.NoLimit := e0.mod.nolimit.keeps fun b o e => (e0.bs b o e).1
    have kinds : ∀ y ∈ ps.zip us, scope.names.lookup y.1 = some .local ∨
        (scope.names.lookup y.1 = some .cell ∧ ((cellsFrom (s.heap.objs.size + 1) scope.names []).lookup y.1).isSome = true) := by
      rintro ⟨n, v⟩ hy
      cases S.par n (List.of_mem_zip hy).1 with
      | inl q => exact .inl q
      | inr q => exact .inr ⟨q, PySem.W.cellsFrom_some _ _ _ (.inl q)⟩
    refine codeAny_call_function room.depth (inK _ _ look) rfl S.co S.gen rfl (PySem.W.codeRec_of inK code) (bound _ _ _ _ ?_)
    refine wpAny_newFunctionEnv_cells S.kind kinds fun env he z x => ?_
    subst he
    refine ⟨limit.keeps x.toInCall.keep, codeAny_func ?_⟩
    obtain ⟨t, ht, hq⟩ := inner A out s H xs Q E (room.deeper _) still hsp
    have J0 : Inv (cxOf cx P w K mg base N qual scope f cdv A out s H E) [] (start N xs) H z := inv_start S room.hd e0 hl rel x
    refine wpAny_mono (ht.run [] z (start N xs) H _ J0 hq) (fun fl z' hs => ?_) fun e z' hs => hs
    have close : ∀ {σ' : L2.St} {H2 : Hp} {v : V} {u : Value}, Inv (cxOf cx P w K mg base N qual scope f cdv A out s H E) [] σ' H2 z' → RelV v u → Q v H2 → CE out P w H s Q u z' := by
      intro σ' H2 v u J rv q
      exact ⟨v, H2, J.os, J.bare, J.base, J.hok, rv, q⟩
    cases fl with
    | ret u =>
      obtain ⟨v, σ', H2, J, rv, q⟩ := hs
      exact close J rv q
    | next =>
      obtain ⟨σ', H2, J, q⟩ := hs
      exact close (v := V.non) (u := Value.none) J rfl q
    | brk =>
      obtain ⟨_, _, _, q⟩ := hs
      exact q.elim
    | cont =>
      obtain ⟨_, _, _, q⟩ := hs
      exact q.elim

/-- for a def of the text that lets nothing out -/
theorem Kept.fn {x qual : Str} {st : Stmt} {f : Addr} {fd : FuncData} {N ps : List Str} {k : Nat} {sp : Sp} (F : Fun K x qual st f fd) (S : FnScope N ps (defScope st))
    (long : ∀ xs H Q E, sp xs H Q E → xs.length = ps.length)
    (inner : ∀ (cdv : Value) (A : Around) (out : List Env) (s : Shared) (H : Hp) (xs : List V) (Q : VK) (E : XK), Room k (A.deeper (envOfC qual (defScope st) s.heap.objs.size f cdv)) →
      Still (A.deeper (envOfC qual (defScope st) s.heap.objs.size f cdv)) → sp xs H Q E →
      ∃ t, PSs (cxOf CX0 P w K mg base N qual (defScope st) f cdv A out s H E).nox (defBody st) t ∧ t { nx := fun _ H2 => Q .non H2, rt := Q } (start N xs) H) :
    Kept P w K mg base CX0 (k + 1) f fd ps sp := by
  obtain ⟨oc, od, kV, doc, pm, an, cdv, ct, osl, e, look, code⟩ := F.ex
  subst e
  refine Kept.ok look code S long fun A out s H xs Q E room still hsp => ?_
  obtain ⟨t, h, q⟩ := inner cdv A out s H xs Q E room still hsp
  exact ⟨t, h.nox, q⟩
end

section
variable {X : Cx} {cx : CXT} {k : Nat} {f : Addr} {fd : FuncData} {ps : List Str} {sp : Sp} {dvs : List V} {ds : List Value} {E : XK} {x : Str} {p pos : Pos} {e : Expr} {es : List Expr} {t : TA}
theorem Kept.runs {pins : List (Addr × Obj)} {σ : L2.St} {H : Hp} {s : Shared} {Q : VK} {us : List Value} {xs : List V} (F : Kept X.prog X.w X.K X.mg X.base cx k f fd ps sp) (room : Room k X.A) (still : Still X.A)
    (hb : Binds X.K fd ps ds) (hd : Vals dvs ds) (hx : Passes cx X E) (I : Inv X pins σ H s) (r : Vals xs us) (h : sp (xs ++ dvs) H Q E) :
    wpAny (model X.prog X.w) X.A (call (.ref f) us) (EP X pins σ Q) X.xe s := by
  have r2 : Vals (xs ++ dvs) (us ++ ds) := r.append hd
  have hl : (us ++ ds).length = ps.length := r2.length.symm.trans (F.long _ _ _ _ h)
  refine wpAny_call (codeAny_mono (F.goes X.A X.stack s H ⟨us, []⟩ (us ++ ds) (xs ++ dvs) Q E room still I.env0 (hb s us I.kIn hl) r2 h) fun r z hq => ?_)
  match r, hq with
  | .error e, hq => exact hx pins σ H s e z I hq
  | .ok (.ret u), hq => exact I.after hq
  | .ok .next, hq => exact False.elim hq
  | .ok .brk, hq => exact False.elim hq
  | .ok .cont, hq => exact False.elim hq
/-- f(e, ..) of such a def -/
theorem pe_callG (F : Kept X.prog X.w X.K X.mg X.base cx k f fd ps sp) (room : Room k X.A) (still : Still X.A) (hg : Gl X x) (hm : X.mg x = some (.ref f)) (hk : PySem.W.keepIn X.K (.ref f) = true)
    (hb : Binds X.K fd ps ds) (hd : Vals dvs ds) (hx : Passes cx X E) (ha : PA X (e :: es) t) (hdb : (x == ("__debug__" : Str)) = false := by decide)
    (he : starEach (e :: es) X.env = (false, eval e X.env) :: starEach es X.env := by rfl) (hpl : (backTo pos (starEach es X.env)).any (·.1) = false := by rfl) :
    PE X (.Call (.Name x p) (e :: es) [] pos) (tCall sp dvs E t) := by
  constructor
  intro pins s σ H Q I h
  refine wpAny_Call_Name_kw (ld_glob I hg hm ?_ hdb)
  refine PySem.W.callWith_K (h₀ := X.base) I.ok.mod.kin hk ?_ he hpl
  exact thn (ha.run pos pins s σ H _ I h) fun us z ⟨xs, H1, J, r, q⟩ => ⟨J.kIn, F.runs room still hb hd hx J r q⟩

/-- data as it stands in the abstract heap: none, bools, ints, texts, lists, tuples, and dicts of texts and ints -/
inductive Data (K : PySem.W.Frag) (H : Hp) : V → PyData → Prop
  | flat {v : V} {d : PyData} (h : Dp K H v d) (n : d.hasDict = false) : Data K H v d
  | dict {a : Addr} {kvs : List (Str × Int)} (h : H a = some (.dK (kvs.map fun p => (Sum.inr p.1, V.int p.2)))) : Data K H (.ref a) (.dict (kvs.map fun p => (.str p.1, .int p.2)))

theorem keys_flat (h : Heap) : ∀ (kvs : List (Str × Int)) (es : List DictEntry) (vs : List (Key × Value)), Pairs (mixKind X.prog X.w) es vs → KV (kvs.map fun p => (Sum.inr p.1, V.int p.2)) vs →
    ReadsAll h (es.map (·.key)) ((kvs.map fun p => ((PyData.str p.1, PyData.int p.2) : PyData × PyData)).map (·.1)) [] ∧ ReadsAll h (es.map (·.val)) ((kvs.map fun p => ((PyData.str p.1, PyData.int p.2) : PyData × PyData)).map (·.2)) [] := by
  intro kvs
  induction kvs with
  | nil =>
    intro es vs hp rel
    cases rel
    cases hp
    exact ⟨.nil, .nil⟩
  | cons p kvs ih =>
    intro es vs hp rel
    cases rel with
    | @cons _ kv _ vs' r1 r2 =>
      cases hp with
      | @cons e _ es' _ hk hv hp' =>
        obtain ⟨q1, q2⟩ := ih _ _ hp' r2
        obtain ⟨k0, v0⟩ := kv
        obtain ⟨r3, r4⟩ := r1
        dsimp only at r3 r4 hk hv
        subst r3
        obtain ⟨t, r4⟩ := r4
        rcases keyIs_shape (show keyIs (Sum.inr p.1 : Key) e.key = true from hk) with ⟨i, t', z, _⟩ | ⟨x, t', z, e'⟩
        · cases z
        · cases z
          refine ⟨?_, ?_⟩
          · show ReadsAll h (e.key :: _) (PyData.str p.1 :: _) ([] ++ [])
            rw [e']
            exact .cons (.str _ _) q1
          · show ReadsAll h (e.val :: _) (PyData.int p.2 :: _) ([] ++ [])
            rw [hv, r4]
            exact .cons (.int _ _) q2
theorem Data.reads {pins : List (Addr × Obj)} {σ : L2.St} {H : Hp} {s : Shared} (I : Inv X pins σ H s) {v : V} {u : Value} {d : PyData} (h : Data X.K H v d) (r : RelV v u) :
    ∃ as, Reads s.heap u d as ∧ (d.hasDict = true → sysModules ∉ as) := by
  cases h with
  | flat h n =>
    obtain ⟨as, q⟩ := Dp.reads I d v u h r
    exact ⟨as, q, fun z => by rw [n] at z; cases z⟩
  | @dict a kvs h =>
    cases r
    obtain ⟨hz, hs, vs, rel, o, es, ep, ho, hx, hd, _, hp, _⟩ := I.hok a _ h
    obtain ⟨q1, q2⟩ := keys_flat (X := X) s.heap kvs _ _ hp rel
    refine ⟨_, Reads.dict ho hx.1 hd q1 q2, fun _ z => ?_⟩
    simp only [List.append_nil, List.mem_singleton] at z
    rw [z] at hs
    simp at hs

/-- repr(x) -/
def rShow (K : PySem.W.Frag) : List V → Hp → VK → Prop := fun xs H Q => ∃ (x : V) (d : PyData), xs = [x] ∧ Data K H x d ∧ d.showable = true ∧ d.depth < 60 ∧ d.shown.length ≤ sizeLine ∧ Q (.str d.shown) H
theorem call_show (still : Still X.A) (hu : X.A.units + 64 < cLine) : CallR X (.builtin "repr") (rShow X.K) := by
  intro pins s σ H xs us Q I r h
  obtain ⟨x, d, rfl, hd, h1, h3, h4, q⟩ := h
  obtain ⟨u, rfl, r1⟩ : ∃ u, us = [u] ∧ RelV x u := by
    cases r with
    | cons a b => cases b; exact ⟨_, rfl, a⟩
  obtain ⟨as, rd, hsm⟩ := Data.reads I hd r1
  cases rd with
  | none => exact P.repr_of_none ⟨.str (PyData.shown .none), H, I.tok _, ⟨_, rfl⟩, q⟩
  | bool b => exact P.repr_of_bool ⟨.str (PyData.shown (.bool b)), H, I.tok _, ⟨_, rfl⟩, q⟩
  | int i t => exact P.repr_of_int (of_decide_eq_true h1) ⟨.str (PyData.shown (.int i)), H, I.tok _, ⟨_, rfl⟩, q⟩
  | str z t => exact P.repr_of_str ⟨.str (PyData.shown (.str z)), H, I.tok _, ⟨_, rfl⟩, q⟩ h4
  | list a1 a2 a3 a4 => exact repr_of_reads' (Reads.list a1 a2 a3 a4) h1 hsm still (by omega) (fun _ _ e => e) (fun h' u tk hk => ⟨.str (PyData.shown _), H, I.kept (t' := tk) hk, ⟨_, rfl⟩, q⟩) h4
  | tuple a1 a2 a3 a4 => exact repr_of_reads' (Reads.tuple a1 a2 a3 a4) h1 hsm still (by omega) (fun _ _ e => e) (fun h' u tk hk => ⟨.str (PyData.shown _), H, I.kept (t' := tk) hk, ⟨_, rfl⟩, q⟩) h4
  | dict a1 a2 a3 a4 a5 => exact repr_of_reads' (Reads.dict a1 a2 a3 a4 a5) h1 hsm still (by omega) (fun _ _ e => e) (fun h' u tk hk => ⟨.str (PyData.shown _), H, I.kept (t' := tk) hk, ⟨_, rfl⟩, q⟩) h4
end

/-! ### the head: the law's call, nothing being shown -/
section
variable {P : Program} {w : World} {K : PySem.W.Frag} {mg mb : Str → Option Value} {cx : CXT} {k : Nat} {fa a : Addr} {fd : FuncData} {x : Str} {sp : Sp} {s₁ : Shared} {vs : List Value} {ns : List Int}
/-- from one abstract heap in which at most the script stands -/
theorem law_core (KX : K.In s₁.heap) (hns : s₁.heap.Ns mainGlobals mg) (hb : s₁.heap.Ns builtinsNs mb) (hbb : ∀ x : Str, x ≠ "__name__" → mb x = bootBuiltins x) (hlim : s₁.heap.NoLimit) (hg : s₁.gens = #[])
    (ha : s₁.heap.get? a = some { cls := .type "list", data := .seq vs.toArray }) (room : Room k callerA)
    (F : ∀ base : Heap, K.In base → base.Ns mainGlobals mg → Kept P w K mg base cx k fa fd [x] sp) (hbind : ∀ (s : Shared) (u : Value), BindsTo s fd ⟨[u], []⟩ [(x, u)])
    (hcx : ∀ H e z, cx [] H s₁ (fun _ _ _ => False) e z → False)
    (H : Hp) (only : Only H) (want : sp [.ref a] H (fun v _ => v = .bl true) fun _ _ _ => False) (hok : HOk P w H s₁.heap) (at_a : ∀ b, H b ≠ none → b = a) (notK : H a ≠ none → K.lookup a = none) :
    codeAny (model P w) callerA (.call (.ref fa) ⟨[.ref a], []⟩) (fun r z => r = .ok (.ret (.bool true)) ∧ OldK s₁.heap z.heap ∧ z.os = s₁.os ∧ AllBare z.gens) s₁ := by
  have under : ∀ {b : Addr} {o : Obj}, s₁.heap.get? b = some o → H b = none → (hidT s₁.heap H).get? b = some o := fun e n => hidT_get e n
  have away : ∀ {b : Addr}, (b = a → False) → H b = none := by
    intro b n
    cases q : H b with
    | none => rfl
    | some u => exact (n (at_a b (by rw [q]; simp))).elim
  have noDict : ∀ {b : Addr} {o : Obj} {es : Array DictEntry} {ep : Nat}, s₁.heap.get? b = some o → o.data = .dict es ep → H b = none := by
    intro b o es ep e d
    refine away fun z => ?_
    subst z
    rw [ha] at e
    cases e
    cases d
  have names : ∀ {b : Addr} {m : Str → Option Value}, s₁.heap.Ns b m → (hidT s₁.heap H).Ns b m := by
    rintro b m ⟨o, es, ep, e, d, r⟩
    exact ⟨o, es, ep, under e (noDict e d), d, r⟩
  have inB : K.In (hidT s₁.heap H) := by
    intro b o e
    refine under (KX b o e) ?_
    cases q : H b with
    | none => rfl
    | some u =>
      have z := at_a b (by rw [q]; simp)
      subst z
      have n := notK (by rw [q]; simp)
      rw [n] at e
      cases e
  have md : Mod K mg (hidT s₁.heap H) := ⟨inB, names hns, ⟨mb, names hb, hbb⟩, let ⟨mc, h1, h2⟩ := hlim; ⟨mc, names h1, h2⟩⟩
  have e0 : Env0 P w K mg (hidT s₁.heap H) callerA [] s₁ H := by
    refine ⟨rfl, md, fun b o e => of_hidT e, Nat.le_of_eq (hidT_size _ _), trivial, fun b hb => ?_, hok, .of_eq hg⟩
    exact absurd (show b ∈ ([] : List Addr) from hb) (by simp)
  refine codeAny_mono ((F _ inB (names hns)).goes callerA [] s₁ H ⟨[.ref a], []⟩ [.ref a] [.ref a] _ _ room rfl e0 (hbind s₁ (.ref a)) (.cons rfl .nil) want) fun r z h => ?_
  match r, h with
  | .error e, h => exact (hcx H e z h).elim
  | .ok .next, h => exact False.elim h
  | .ok .brk, h => exact False.elim h
  | .ok .cont, h => exact False.elim h
  | .ok (.ret u), h =>
    obtain ⟨v, H2, os, bare, un, hok2, r2, q⟩ := h
    have q' : v = .bl true := q
    subst q'
    obtain rfl : u = Value.bool true := r2
    refine ⟨rfl, OldK.of_keep fun b o e => ?_, os, bare⟩
    cases q : H b with
    | none =>
      refine un.keep b o e q (fun y => ?_) (by simp)
      exact absurd (show b ∈ ([] : List Addr) from y) (by simp)
    | some u =>
      rcases only b with y | ⟨ob, xs, y⟩
      · rw [q] at y
        cases y
      · have y2 := un.frzs b ob _ y
        obtain ⟨e1, _⟩ := hok b _ y
        obtain ⟨e2, _⟩ := hok2 b _ y2
        rw [e] at e1
        cases e1
        exact e2

theorem law_call (KX : K.In s₁.heap) (hns : s₁.heap.Ns mainGlobals mg) (hb : s₁.heap.Ns builtinsNs mb) (hbb : ∀ x : Str, x ≠ "__name__" → mb x = bootBuiltins x) (hlim : s₁.heap.NoLimit) (hg : s₁.gens = #[])
    (ha : s₁.heap.get? a = some { cls := .type "list", data := .seq vs.toArray }) (hi : IntsAre vs ns) (hl : ns.length ≤ sizeLine) (room : Room k callerA)
    (F : ∀ base : Heap, K.In base → base.Ns mainGlobals mg → Kept P w K mg base cx k fa fd [x] sp) (hbind : ∀ (s : Shared) (u : Value), BindsTo s fd ⟨[u], []⟩ [(x, u)])
    (hsp : ∀ H : Hp, Only H → SqL K H a (ns.map V.int) → sp [.ref a] H (fun v _ => v = .bl true) fun _ _ _ => False)
    (hcx : ∀ H e z, cx [] H s₁ (fun _ _ _ => False) e z → False) :
    codeAny (model P w) callerA (.call (.ref fa) ⟨[.ref a], []⟩) (fun r z => r = .ok (.ret (.bool true)) ∧ OldK s₁.heap z.heap ∧ z.os = s₁.os ∧ AllBare z.gens) s₁ := by
  have rel := vals_ints hi
  have len := hi.length
  have core := law_core KX hns hb hbb hlim hg ha room F hbind hcx
  cases hk : K.lookup a with
  | some o =>
    have e := KX a o hk
    rw [ha] at e
    cases e
    have only : Only (fun _ => none) := fun _ => .inl rfl
    refine core (fun _ => none) only (hsp _ only ?_) (fun b u z => nomatch (show (none : Option HO) = some u from z)) (fun b z => absurd rfl z) fun z => absurd rfl z
    exact .inr ⟨_, vs.toArray, _, hk, rfl, rfl, rfl, by rw [List.size_toArray, len]; exact hl, by simpa using rel⟩
  | none =>
    have only : Only (fun b => if b = a then some (.frz { cls := .type "list", data := .seq vs.toArray } (.lst (ns.map V.int))) else none) := by
      intro b
      by_cases z : b = a
      · exact .inr ⟨_, _, if_pos z⟩
      · exact .inl (if_neg z)
    refine core _ only (hsp _ only ?_) (fun b u z => ?_) (fun b z => ?_) fun _ => hk
    · exact .inl (.inr ⟨{ cls := .type "list", data := .seq vs.toArray }, if_pos rfl⟩)
    · by_cases y : b = a
      · have z' := (if_pos y).symm.trans z
        cases z'
        subst y
        exact ⟨ha, by rw [List.length_map]; exact hl, vs, _, rel, ha⟩
      · have z' := (if_neg y).symm.trans z
        cases z'
    · by_cases y : b = a
      · exact y
      · exact absurd (if_neg y) z
end

/-- the goal that the head leaves -/
theorem walk {l : PySem.W.OpenLaw} {n k : Nat} {q : Program} {loose : List Str} {XP : (Str → Option Value) → Heap → Prop} {YP : World → Heap → Prop} {d : DefRec} {K : Params → PySem.W.Frag} {cx : World → CXT} {sp : World → Sp} {x : Str}
    (hn : l.most = some n) (hn2 : n ≤ sizeLine) (hdf : d.params.defaults = []) (room : Room k callerA) (hY : ∀ (w : World) (h : Heap), YP w h → (K w.params).In h)
    (F : ∀ (w : World) (mg : Str → Option Value) (fa : Addr) (h : Heap), (K w.params).In h → h.Ns mainGlobals mg → mg d.name = some (.ref fa) → XP mg h →
      ∃ fd : FuncData, (∀ (s : Shared) (u : Value), BindsTo s fd ⟨[u], []⟩ [(x, u)]) ∧
        ∀ base : Heap, (K w.params).In base → base.Ns mainGlobals mg → Kept l.prog w (K w.params) mg base (cx w) k fa fd [x] (sp w))
    (hsp : ∀ (w : World) (H : Hp) (a : Addr) (ns : List Int), ns.length ≤ n → Only H → SqL (K w.params) H a (ns.map V.int) → sp w [.ref a] H (fun v _ => v = .bl true) fun _ _ _ => False)
    (hcx : ∀ (w : World) (H : Hp) (s : Shared) (e : Value) (z : Shared), cx w [] H s (fun _ _ _ => False) e z → False) :
    PySem.W.WalkO q loose XP YP l.row.toRowW d [] (fun f vs => PySem.call f vs) := by
  refine Att.attach_call hn hdf ?_
  intro w s₀ s₁ mg mb fa o pm cd doc a vs ns G Y ho hd hcd hmg hobj hints hlen hg
  have KX := hY w _ Y
  obtain ⟨fd, hb, hF⟩ := F w mg fa _ KX G.T.g hmg G.X
  exact law_call KX G.T.g G.T.b G.T.builtins G.T.nolimit hg hobj hints (Nat.le_trans hlen hn2) room hF hb (fun H hO hS => hsp w H a ns hlen hO hS) fun H e z => hcx w H s₁ e z
end Tg
set_option Elab.async false
set_option linter.all false
set_option maxRecDepth 100000
set_option maxHeartbeats 3200000
/-! set(a text), sorted(it), list(a text), as rules -/
namespace Tx
open PySem PySem.Spec PyProof.Rows L2

/-- the signs of a text, each once, rising -/
def ups (l : List Nat) : List Nat := (met [] l).mergeSort (fun a b => decide (a ≤ b))
theorem ups_perm (l : List Nat) : (ups l).Perm (met [] l) := List.mergeSort_perm _ _
theorem ups_mem (l : List Nat) (c : Nat) : c ∈ ups l ↔ c ∈ l := by
  rw [(ups_perm l).mem_iff, met_mem]
  simp
theorem ups_nodup (l : List Nat) : (ups l).Nodup := (ups_perm l).nodup_iff.mpr (met_nodup l [] List.nodup_nil)
theorem ups_up (l : List Nat) : (ups l).Pairwise (· < ·) := by
  have h1 : (ups l).Pairwise (fun a b => decide (a ≤ b) = true) :=
    List.pairwise_mergeSort (le := fun a b : Nat => decide (a ≤ b)) (fun a b c h1 h2 => by
      have h1' := of_decide_eq_true h1
      have h2' := of_decide_eq_true h2
      exact decide_eq_true (Nat.le_trans h1' h2')) (fun a b => by
      rcases Nat.le_total a b with z | z
      · simp [z]
      · simp [z]) (met [] l)
  have h2 : (ups l).Pairwise (· ≠ ·) := ups_nodup l
  refine List.Pairwise.imp₂ (fun x y a b => ?_) h1 h2
  have a' := of_decide_eq_true a
  omega
theorem up_eq : ∀ {l m : List Nat}, l.Pairwise (· < ·) → m.Pairwise (· < ·) → (∀ c, c ∈ l ↔ c ∈ m) → l = m
  | [], [], _, _, _ => rfl
  | [], y :: m, _, _, h => by have := (h y).mpr List.mem_cons_self; simp at this
  | x :: l, [], _, _, h => by have := (h x).mp List.mem_cons_self; simp at this
  | x :: l, y :: m, h1, h2, h => by
    obtain ⟨a1, a2⟩ := List.pairwise_cons.mp h1
    obtain ⟨b1, b2⟩ := List.pairwise_cons.mp h2
    have e : x = y := by
      rcases List.mem_cons.mp ((h x).mp List.mem_cons_self) with z | z
      · exact z
      · rcases List.mem_cons.mp ((h y).mpr List.mem_cons_self) with u | u
        · exact u.symm
        · have := a1 y u
          have := b1 x z
          omega
    subst e
    rw [up_eq a2 b2 fun c => ?_]
    constructor
    · intro q
      rcases List.mem_cons.mp ((h c).mp (List.mem_cons_of_mem _ q)) with z | z
      · subst z
        exact absurd (a1 _ q) (Nat.lt_irrefl _)
      · exact z
    · intro q
      rcases List.mem_cons.mp ((h c).mpr (List.mem_cons_of_mem _ q)) with z | z
      · subst z
        exact absurd (b1 _ q) (Nat.lt_irrefl _)
      · exact z
theorem ups_of {l ns : List Nat} (h : ns.Pairwise (· < ·)) (p : ns.Perm (met [] l)) : ns = ups l :=
  up_eq h (ups_up l) fun c => by rw [p.mem_iff, ups_mem, met_mem]; simp

/-- one-sign texts as values -/
abbrev ones (l : List Nat) : List V := l.map fun c => V.str (one c)
theorem ones_map (l : List Nat) : ones l = (l.map one).map V.str := by rw [List.map_map]; rfl

/-- the set of texts at a -/
def TO (w : World) (a : Addr) (acc : List Nat) : HO := .ext fun h => At w h a (acc.map one)
section
variable {X : Cx}
theorem to_new {w : World} {P : Program} {H : Hp} {h : Heap} {a : Addr} {acc : List Nat} (R : At w h a (acc.map one)) : ObjOk P w H h a (TO w a acc) :=
  ⟨R, let ⟨o, _, _, _, ho, _⟩ := R; ⟨o, ho⟩, fun _ _ p k => At.stays p k⟩
/-- set(s), s a text of few different signs -/
def rSetTx (w : World) : List V → Hp → VK → Prop := fun xs H Q => ∃ z : Str, xs = [.str z] ∧ (met [] z.cps.toList).length < 64 ∧ ∀ p, H p = none → Q (.ref p) (upd H p (TO w p (met [] z.cps.toList)))
theorem cr_setTx (hc : X.calm = true) : CallR X (.type "set") (rSetTx X.w) := by
  intro pins s σ H xs us Q I r h
  obtain ⟨z, rfl, hf, q⟩ := h
  obtain ⟨t, rfl⟩ : ∃ t, us = [Value.str z t] := by
    cases r with
    | cons a b =>
      cases b
      obtain ⟨t, rfl⟩ := a
      exact ⟨t, rfl⟩
  have hb : (met [] z.cps.toList).length + 1 < scanBound := by
    have : (64 : Nat) + 1 < scanBound := by decide
    omega
  refine call_set_text (P := X.prog) (w := X.w) (I.ok.hd hc) hb fun h' tk R k => ?_
  exact ⟨.ref _, upd H s.heap.objs.size (TO X.w s.heap.objs.size (met [] z.cps.toList)), I.laid (t' := tk) k (Nat.le_refl _) (to_new R), rfl, q _ (I.hok.fresh (Nat.le_refl _))⟩
/-- sorted(a set of texts) -/
def rSortTx (w : World) : List V → Hp → VK → Prop := fun xs H Q => ∃ (a : Addr) (l : List Nat), xs = [.ref a] ∧ H a = some (TO w a (met [] l)) ∧ (met [] l).length < 64 ∧ ∀ p, H p = none → Q (.ref p) (upd H p (.lst (ones (ups l))))
theorem cr_sortTx (hc : X.calm = true) : CallR X (.builtin "sorted") (rSortTx X.w) := by
  intro pins s σ H vs us Q I r h
  obtain ⟨a, l, rfl, ha, h64, q⟩ := h
  have R : At X.w s.heap a ((met [] l).map one) := (I.hok a _ ha).1
  rw [Vals.ref1 r]
  refine sorted_text (P := X.prog) R (met_nodup l [] List.nodup_nil) (I.ok.hd hc) h64 fun z p out c ns k g o hp hg hS up pm => ?_
  obtain rfl := ups_of up pm
  have hlen : (ones (ups l)).length ≤ sizeLine := by
    rw [List.length_map, pm.length_eq, sizeLine_eq]
    omega
  have hn : H p = none := I.hok.fresh hp
  have hv : Vals (ones (ups l)) out.toList := by rw [ones_map]; exact vals_of_strs hS
  have J : Inv X pins σ (upd H p (.lst (ones (ups l)))) { s with heap := z.heap, gens := z.gens, drawn := z.drawn, toks := z.toks } :=
    I.call (ch := []) (Un.laid k hp hn) (I.hok.laid k hp ⟨hlen, out.toList, c, hv, hg⟩) (by rw [g]; exact I.bare) (fun _ y => nomatch y)
  have e : z = { s with heap := z.heap, gens := z.gens, drawn := z.drawn, toks := z.toks } := by
    cases z
    cases s
    cases o
    rfl
  rw [e]
  exact ⟨.ref p, _, J, rfl, q p hn⟩
/-- list(s), s a text -/
def rListTx : List V → Hp → VK → Prop := fun xs H Q => ∃ z : Str, xs = [.str z] ∧ z.length ≤ sizeLine ∧ ∀ p, H p = none → Q (.ref p) (upd H p (.lst (ones z.cps.toList)))
theorem signs_vals {z : Str} {acc : Array Value} (h : ItemsOf (SignAt z) acc z.cps.size) : Vals (ones z.cps.toList) acc.toList := by
  have all : ∀ (l : List Nat) (us : List Value), us.length = l.length → (∀ (j : Nat) (v : Value), us[j]? = some v → ∃ (c : Nat) (u : Tok), l[j]? = some c ∧ v = Value.str (one c) u) → Vals (ones l) us := by
    intro l
    induction l with
    | nil =>
      intro us hl _
      cases us with
      | nil => exact .nil
      | cons u us => simp at hl
    | cons c l ih =>
      intro us hl hg
      cases us with
      | nil => simp at hl
      | cons u us =>
        obtain ⟨d, t, h1, h2⟩ := hg 0 u rfl
        have e : c = d := Option.some.inj h1
        subst e
        refine .cons ⟨t, h2⟩ (ih us (by simpa using hl) fun j v hv => ?_)
        exact hg (j + 1) v hv
  refine all _ _ (by rw [Array.length_toList, Array.length_toList]; exact h.1) fun j v hv => ?_
  rw [Array.getElem?_toList] at hv
  obtain ⟨c, u, h1, h2⟩ := h.2 j v hv
  exact ⟨c, u, by rw [Array.getElem?_toList]; exact h1, h2⟩
theorem cr_listTx (hc : X.calm = true) : CallR X (.type "list") rListTx := by
  intro pins s σ H xs us Q I r h
  obtain ⟨z, rfl, hl, q⟩ := h
  cases r with
  | cons a b =>
    cases b
    obtain ⟨t, rfl⟩ := a
    refine call_list_str (I.ok.hd hc) z t (hn := hl) fun h' tk acc c k hg hi => ?_
    have hz : (ones z.cps.toList).length ≤ sizeLine := by
      rw [List.length_map, Array.length_toList]
      exact hl
    exact ⟨.ref _, upd H s.heap.objs.size (.lst (ones z.cps.toList)), I.laid (t' := tk) k (Nat.le_refl _) ⟨hz, acc.toList, c, signs_vals hi, by simpa using hg⟩, rfl, q _ (I.hok.fresh (Nat.le_refl _))⟩
/-- a ** b, the result below 2 ^ 27 bits -/
theorem op_powW : OpR X (binaryOp .Pow) (rI (fun i j => 0 ≤ j ∧ (Builtin.Int.intBits i : Int) * j ≤ 2 ^ 27) fun i j => .int (i ^ j.toNat)) := opI fun _ _ _ _ _ _ _ hc q => pow_int hc.1 hc.2 q
end
end Tx
set_option Elab.async false
set_option linter.all false
set_option maxRecDepth 100000
set_option maxHeartbeats 3200000
/-! what the judges are worth, over plain data -/
namespace Tm
open PySem PySem.Spec PySem.Builtin PySem.Builtin.Str PyProof.Rows L2 Tx

abbrev cds (z : Str) : List Nat := z.cps.toList
theorem cds_ext {y z : Str} (h : cds y = cds z) : y = z := by
  cases y with
  | mk a =>
    cases z with
    | mk b =>
      have e : a = b := Array.toList_inj.mp h
      rw [e]
theorem cds_len (z : Str) : (cds z).length = z.length := by
  show z.cps.toList.length = z.cps.size
  rw [Array.length_toList]
/-- every sign of z is one of sg -/
def only (z sg : Str) : Bool := (cds z).all fun c => decide (c ∈ cds sg)
theorem only_iff {z sg : Str} : only z sg = true ↔ ∀ c ∈ cds z, c ∈ cds sg := by
  unfold only
  rw [List.all_eq_true]
  exact ⟨fun h c hc => of_decide_eq_true (h c hc), fun h c hc => decide_eq_true (h c hc)⟩
theorem getD_mem {z : Str} {k : Nat} (h : k < z.length) : z.cps.getD k 0 ∈ cds z := by
  have h' : k < z.cps.size := h
  have e : z.cps.getD k 0 = z.cps[k] := by simp [Array.getD, h']
  rw [e]
  exact Array.getElem_mem_toList h'
theorem mem_getD {z : Str} {c : Nat} (h : c ∈ cds z) : ∃ k, k < z.length ∧ z.cps.getD k 0 = c := by
  obtain ⟨k, hk, e⟩ := List.getElem_of_mem h
  have hk' : k < z.cps.size := by rw [Array.length_toList] at hk; exact hk
  refine ⟨k, hk', ?_⟩
  rw [← e]
  simp [Array.getD, hk']
theorem goes_iff {sg : Str} {c : Nat} : sg.cps.contains c = true ↔ c ∈ cds sg := by
  rw [Array.contains_iff_mem, Array.mem_toList_iff]
/-- strip with all the signs of sg leaves nothing exactly if there is no other sign -/
theorem strip_only (z sg : Str) : decide (Txt.stripChars z sg = Str.empty) = only z sg := by
  unfold Txt.stripChars
  rw [stripBy_eq]
  obtain ⟨a1, a2, a3⟩ := lo_facts sg.cps.contains z
  obtain ⟨b1, b2, b3, b4⟩ := hi_facts sg.cps.contains z _ a1
  generalize stripLo sg.cps.contains true z = lo at a1 a2 a3 b1 b2 b3 b4 ⊢
  generalize stripHi sg.cps.contains true z lo = hi at b1 b2 b3 b4 ⊢
  have key : strSub z lo hi = Str.empty ↔ lo = hi := by
    constructor
    · intro h
      have e : (z.cps.extract lo hi).size = 0 := by
        have := congrArg (fun y : Str => y.cps.size) h
        exact this
      rw [Array.size_extract] at e
      have hb : hi ≤ z.cps.size := b2
      omega
    · intro h
      subst h
      refine cds_ext ?_
      show (z.cps.extract lo lo).toList = (Str.empty).cps.toList
      rw [Array.extract_empty_of_stop_le_start (Nat.le_refl _)]
      rfl
  by_cases h : only z sg = true
  · rw [h]
    refine decide_eq_true (key.mpr ?_)
    have all := only_iff.mp h
    rcases Nat.lt_or_ge lo z.length with hl | hl
    · exfalso
      rcases a3 with e | e
      · omega
      · have := goes_iff.mpr (all _ (getD_mem hl))
        rw [e] at this
        cases this
    · have c2 : hi ≤ z.length := b2
      omega
  · have h' : only z sg = false := by simpa using h
    rw [h']
    refine decide_eq_false fun q => h (only_iff.mpr fun c hc => ?_)
    have e := key.mp q
    obtain ⟨k, hk, rfl⟩ := mem_getD hc
    rcases Nat.lt_or_ge k lo with u | u
    · exact goes_iff.mp (a2 k u)
    · exact goes_iff.mp (b3 k (by omega) hk)

/-! ### the judges -/
def big : Int := 10 ^ 200
def isInt : PyData → Bool
  | .int n => decide (n.natAbs < 10 ^ 200)
  | _ => false
def has (sg : Str) (most : Nat) : PyData → Bool
  | .str z => decide (z.length ≤ most) && only z sg
  | _ => false
def alpha : Str := "abcdefghijklmnopqrstuvwxyz"
def name : PyData → Bool
  | .str z => decide (z.length ≤ 8) && only z alpha && decide (z ≠ Str.empty)
  | _ => false
def rise (z : Str) : Bool := decide (cds z = ups (cds z))
def letters : PyData → Bool
  | .str z => decide (z.length ≤ 3) && only z alpha && decide (z ≠ Str.empty) && rise z
  | _ => false
def prime : PyData → Bool
  | .int n => decide (n = 2 ∨ n = 3 ∨ n = 5 ∨ n = 7)
  | _ => false
def lows (z : Str) : Bool := (cds z).all fun c => decide (97 ≤ c) && decide (c ≤ 122)
def small (most : Nat) : PyData → Bool
  | .str z => decide (1 ≤ z.length) && decide (z.length ≤ most) && lows z
  | _ => false
theorem alpha_iff (c : Nat) : c ∈ cds alpha ↔ 97 ≤ c ∧ c ≤ 122 := by
  have e : cds alpha = (List.range 26).map (· + 97) := by decide +kernel
  rw [e, List.mem_map]
  constructor
  · rintro ⟨k, hk, rfl⟩
    have := List.mem_range.mp hk
    omega
  · rintro ⟨h1, h2⟩
    exact ⟨c - 97, List.mem_range.mpr (by omega), by omega⟩
theorem only_alpha (z : Str) : only z alpha = lows z := by
  unfold only lows
  congr 1
  funext c
  by_cases h : c ∈ cds alpha
  · have := (alpha_iff c).mp h
    simp [h, this.1, this.2]
  · have h2 : ¬ (97 ≤ c ∧ c ≤ 122) := fun q => h ((alpha_iff c).mpr q)
    rw [decide_eq_false h, ← Bool.decide_and, decide_eq_false h2]
theorem nonempty_iff (z : Str) : z ≠ Str.empty ↔ 1 ≤ z.length := by
  constructor
  · intro h
    rcases Nat.eq_zero_or_pos z.length with e | e
    · exfalso
      apply h
      apply cds_ext
      have : (cds z).length = 0 := by rw [cds_len]; exact e
      rw [List.length_eq_zero_iff.mp this]
      rfl
    · exact e
  · intro h e
    subst e
    exact absurd h (by decide)
theorem name_small (d : PyData) : name d = small 8 d := by
  cases d with
  | str z =>
    show (decide (z.length ≤ 8) && only z alpha && decide (z ≠ Str.empty)) = (decide (1 ≤ z.length) && decide (z.length ≤ 8) && lows z)
    rw [only_alpha, decide_eq_decide.mpr (nonempty_iff z)]
    cases decide (z.length ≤ 8) <;> cases lows z <;> cases decide (1 ≤ z.length) <;> rfl
  | _ => rfl
theorem letters_small (d : PyData) : letters d = (small 3 d && (match d with | .str z => rise z | _ => false)) := by
  cases d with
  | str z =>
    show (decide (z.length ≤ 3) && only z alpha && decide (z ≠ Str.empty) && rise z) = (decide (1 ≤ z.length) && decide (z.length ≤ 3) && lows z && rise z)
    rw [only_alpha, decide_eq_decide.mpr (nonempty_iff z)]
    cases decide (z.length ≤ 3) <;> cases lows z <;> cases decide (1 ≤ z.length) <;> cases rise z <;> rfl
  | _ => rfl

/-! ### how numbers and texts are shown -/
theorem shown_int {n k : Int} (h : (toString n : String) = toString k) : n = k := by
  have e := congrArg String.toInt? h
  simpa using e

/-- a text that is judged: short, plain signs, few unlike ones -/
structure Fine (z : Str) : Prop where
  long : z.length ≤ 4001
  few : (met [] (cds z)).length < 64
  plain : ∀ c ∈ cds z, c < 128
/-- the four texts of the primes -/
abbrev four : List V := [.str "2", .str "3", .str "5", .str "7"]
/-- data that is judged -/
def Ok : PyData → Prop
  | .int n => n.natAbs.log2 < 1920
  | .str z => Fine z
  | d => d.showable = true ∧ d.depth < 60 ∧ d.shown.length ≤ sizeLine ∧ inV (.str d.shown) four = false
end Tm
set_option Elab.async false
set_option linter.all false
set_option maxRecDepth 100000
set_option maxHeartbeats 3200000
namespace K9
open PySem L2 Tx Tg Tm
def top (i : Nat) : Stmt := PySem.Challenge.pw_whatcounts_k09_whole_free_patterns_and_n.main.body.getD i (.Pass ⟨0, 0, 0, 0⟩)
abbrev sPow : Stmt := top 1
abbrev sInt : Stmt := top 13
abbrev sLetters : Stmt := top 14
abbrev sPrime : Stmt := top 15
abbrev sCheck : Stmt := top 16
abbrev sHas : Stmt := top 17
abbrev sBetween : Stmt := top 19
abbrev sCheckPrime : Stmt := top 20
abbrev sSomePrime : Stmt := top 21
abbrev sOrder : Stmt := top 23
abbrev sTexts : Stmt := top 24
abbrev sLeast : Stmt := top 26
abbrev sFree : Stmt := top 27
abbrev sLeadPow : Stmt := top 28
abbrev sMany : Stmt := top 29
abbrev sDivSign : Stmt := top 30
abbrev sCup : Stmt := top 32
abbrev sBit : Stmt := top 33
abbrev sPick : Stmt := top 34
abbrev sSigns : Stmt := top 35
abbrev sKind : Stmt := top 36
abbrev sLines : Stmt := top 37
abbrev sLeads : Stmt := top 38
abbrev sLeaders : Stmt := top 39
abbrev sLawFree : Stmt := top 40
abbrev sPowRight : Stmt := top 41
abbrev sSumRight : Stmt := top 42
abbrev sRight : Stmt := top 43
abbrev sLaw : Stmt := top 44
/-! ### values -/
inductive Val (H : Hp) : V → PyData → Prop
  | non : Val H .non .none
  | bl (b : Bool) : Val H (.bl b) (.bool b)
  | int (n : Int) : Val H (.int n) (.int n)
  | str (z : Str) : Val H (.str z) (.str z)
  | lst {a : Addr} (l : List Str) (h : H a = some (.lst (l.map V.str))) : Val H (.ref a) (.list (l.map PyData.str))
  | tup {a : Addr} (l : List Str) (h : H a = some (.tup (l.map V.str))) : Val H (.ref a) (.tuple (l.map PyData.str))
  | tupI {a : Addr} (l : List Int) (h : H a = some (.tup (l.map V.int))) : Val H (.ref a) (.tuple (l.map PyData.int))
  | dct {a : Addr} (kvs : List (Str × Int)) (h : H a = some (.dK (kvs.map fun p => (Sum.inr p.1, V.int p.2)))) : Val H (.ref a) (.dict (kvs.map fun p => (.str p.1, .int p.2)))
theorem Val.same {H H' : Hp} {v : V} {d : PyData} (s : Same H H') (h : Val H v d) : Val H' v d := by
  cases h with
  | non => exact .non
  | bl b => exact .bl b
  | int n => exact .int n
  | str z => exact .str z
  | lst l h => exact .lst l (s _ _ h)
  | tup l h => exact .tup l (s _ _ h)
  | tupI l h => exact .tupI l (s _ _ h)
  | dct l h => exact .dct l (s _ _ h)
def intTy : PyData → Bool
  | .int _ => true
  | .bool _ => true
  | _ => false
def strTy : PyData → Bool
  | .str _ => true
  | _ => false
def blTy : PyData → Bool
  | .bool _ => true
  | _ => false
theorem k_NoneType_int : kitB "NoneType" "int" = some false := by decide +kernel
theorem k_NoneType_str : kitB "NoneType" "str" = some false := by decide +kernel
theorem k_NoneType_bool : kitB "NoneType" "bool" = some false := by decide +kernel
theorem k_bool_int : kitB "bool" "int" = some true := by decide +kernel
theorem k_bool_str : kitB "bool" "str" = some false := by decide +kernel
theorem k_bool_bool : kitB "bool" "bool" = some true := by decide +kernel
theorem k_int_int : kitB "int" "int" = some true := by decide +kernel
theorem k_int_str : kitB "int" "str" = some false := by decide +kernel
theorem k_int_bool : kitB "int" "bool" = some false := by decide +kernel
theorem k_str_int : kitB "str" "int" = some false := by decide +kernel
theorem k_str_str : kitB "str" "str" = some true := by decide +kernel
theorem k_str_bool : kitB "str" "bool" = some false := by decide +kernel
theorem k_list_int : kitB "list" "int" = some false := by decide +kernel
theorem k_list_str : kitB "list" "str" = some false := by decide +kernel
theorem k_list_bool : kitB "list" "bool" = some false := by decide +kernel
theorem k_tuple_int : kitB "tuple" "int" = some false := by decide +kernel
theorem k_tuple_str : kitB "tuple" "str" = some false := by decide +kernel
theorem k_tuple_bool : kitB "tuple" "bool" = some false := by decide +kernel
theorem k_dict_int : kitB "dict" "int" = some false := by decide +kernel
theorem k_dict_str : kitB "dict" "str" = some false := by decide +kernel
theorem k_dict_bool : kitB "dict" "bool" = some false := by decide +kernel
theorem Val.ty {K : PySem.W.Frag} {H : Hp} {v : V} {d : PyData} (h : Val H v d) : ∃ t, TyX K H v t ∧ PySem.W.kitOne K t (.type "int") = some (intTy d) ∧ PySem.W.kitOne K t (.type "str") = some (strTy d) ∧ PySem.W.kitOne K t (.type "bool") = some (blTy d) := by
  cases h with
  | non => exact ⟨_, .base .non, kit_ty k_NoneType_int, kit_ty k_NoneType_str, kit_ty k_NoneType_bool⟩
  | bl b => exact ⟨_, .base (.bl b), kit_ty k_bool_int, kit_ty k_bool_str, kit_ty k_bool_bool⟩
  | int n => exact ⟨_, .base (.int n), kit_ty k_int_int, kit_ty k_int_str, kit_ty k_int_bool⟩
  | str z => exact ⟨_, .base (.str z), kit_ty k_str_int, kit_ty k_str_str, kit_ty k_str_bool⟩
  | lst l h => exact ⟨_, .base (.lst h), kit_ty k_list_int, kit_ty k_list_str, kit_ty k_list_bool⟩
  | tup l h => exact ⟨_, .base (.tup h), kit_ty k_tuple_int, kit_ty k_tuple_str, kit_ty k_tuple_bool⟩
  | tupI l h => exact ⟨_, .base (.tup h), kit_ty k_tuple_int, kit_ty k_tuple_str, kit_ty k_tuple_bool⟩
  | dct l h => exact ⟨_, .base (.dK h), kit_ty k_dict_int, kit_ty k_dict_str, kit_ty k_dict_bool⟩

/-- what the walk asks of the module's names -/
structure Txt (K : PySem.W.Frag) (mg : Str → Option Value) : Prop where
  isi : mg "isinstance" = none
  int : mg "int" = none
  str : mg "str" = none
  bool : mg "bool" = none
  abs : mg "abs" = none
  len : mg "len" = none
  list : mg "list" = none
  set : mg "set" = none
  sorted : mg "sorted" = none
  repr : mg "repr" = none
  range : mg "range" = none
  max : mg "max" = none
  min : mg "min" = none
  all : mg "all" = none
  sum : mg "sum" = none
  tuple : mg "tuple" = none
  long : ∃ t, mg "LEAST_TOO_LONG" = some (.int (10 ^ 200) t)
  alpha : ∃ t, mg "ALPHABET" = some (.str alpha t)
  mLet : ∃ t, mg "MAX_LETTERS" = some (.int 3 t)
  mPat : ∃ t, mg "MAX_PATTERN" = some (.int 400 t)
  mDep : ∃ t, mg "MAX_DEPTH" = some (.int 5 t)
  primes : ∃ p, mg "PRIMES" = some (.ref p) ∧ ∀ H, SqT K H p [.int 2, .int 3, .int 5, .int 7]

theorem fine_line {z : Str} (h : Fine z) : z.length ≤ sizeLine := Nat.le_trans h.long (by decide)

/-! ### the program's judges -/
def spHas : Sp := fun vs H Q _ => ∃ (v : V) (d : PyData) (sg : Str) (m : Nat), vs = [v, .str sg, .int m] ∧ Val H v d ∧ Ok d ∧ Q (.bl (has sg m d)) H
section
variable {P : Program} {w : World} {K : PySem.W.Frag} {mg : Str → Option Value} {base : Heap}
theorem scHas : FnScope ["value", "signs", "most"] ["value", "signs", "most"] (defScope sHas) := ⟨rfl, rfl, rfl, by decide +kernel, rfl, by decide +kernel, by decide +kernel⟩
theorem ok_has {f : Addr} {fd : FuncData} (F : Fun K "has_only" "has_only" sHas f fd) (T : Txt K mg) : FnOk P w K mg base CX0 1 f fd ["value", "signs", "most"] spHas := by
  refine F.ok scHas (fun vs H Q E h => ?_) (fun cdv A outer s H vs Q E hr h => ?_)
  · obtain ⟨v, d, sg, m, rfl, _⟩ := h
    rfl
  · obtain ⟨v, d, sg, m, rfl, hv, hd, q⟩ := h
    refine ⟨_, pss_one (ps_ret (pe_and (pe_callB call_isi (by rfl) T.isi (by decide +kernel) (pa_cons (pv 0) (pa_cons (pe_bltn (v := .ty "str") (by rfl) T.str (by decide +kernel) rfl) pa_nil)))
      (pe_and (pe_cmpR op_le (pe_callB call_len_str (by rfl) T.len PySem.boot_len (pa_cons (pv 0) pa_nil)) (pv 2) (nomark _))
      (pe_one (pe_cmpR op_eq (pe_bm PySem.F.plainAttrs_str PySem.F.slot_str_strip PySem.F.type_str_strip mt_stripChars (pv 0) (pa_cons (pv 1) pa_nil)) pe_str (nomark _)))))), ?_⟩
    obtain ⟨t, ty, _, k, _⟩ := Val.ty (K := K) hv
    refine ⟨_, rfl, _, _, _, _, _, rfl, .ty "str", ty, k, strTy d, rfl, ?_⟩
    cases hv with
    | str z =>
      have hz := fine_line (show Fine z from hd)
      refine iteT ?_
      refine ⟨_, rfl, z, rfl, hz, _, rfl, _, _, rfl, rfl, _, rfl, ?_⟩
      have e1 : decide ((z.length : Int) ≤ (m : Int)) = decide (z.length ≤ m) := decide_eq_decide.mpr (by omega)
      rw [e1]
      have e0 : has sg m (.str z) = (decide (z.length ≤ m) && only z sg) := rfl
      rw [e0] at q
      by_cases hm : z.length ≤ m
      · rw [decide_eq_true hm] at q ⊢
        refine iteT ?_
        refine ⟨_, rfl, rfl, _, rfl, z, sg, rfl, rfl, hz, rfl, ?_⟩
        have e2 : decide (V.str (Txt.stripChars z sg) = V.str (Str.ofString "")) = only z sg := by
          rw [← strip_only]
          exact decide_eq_decide.mpr ⟨fun e => by injection e, fun e => by rw [e]; rfl⟩
        rw [e2]
        exact q
      · rw [decide_eq_false hm] at q ⊢
        exact iteF q
    | _ => exact iteF q

def spInt : Sp := fun vs H Q _ => ∃ (v : V) (d : PyData), vs = [v] ∧ Val H v d ∧ Q (.bl (isInt d)) H
theorem scInt : FnScope ["value"] ["value"] (defScope sInt) := ⟨rfl, rfl, rfl, by decide +kernel, rfl, by decide +kernel, by decide +kernel⟩
theorem isInt_abs (n : Int) : decide ((if n < 0 then -n else n) < 10 ^ 200) = isInt (.int n) := by
  show _ = decide (n.natAbs < 10 ^ 200)
  have e : ((10 ^ 200 : Nat) : Int) = 10 ^ 200 := by norm_cast
  rw [← e]
  generalize (10 ^ 200 : Nat) = M
  refine decide_eq_decide.mpr ?_
  split <;> omega
theorem ok_int {f : Addr} {fd : FuncData} (F : Fun K "is_integer" "is_integer" sInt f fd) (T : Txt K mg) : FnOk P w K mg base CX0 1 f fd ["value"] spInt := by
  refine F.ok scInt (fun vs H Q E h => ?_) (fun cdv A outer s H vs Q E hr h => ?_)
  · obtain ⟨v, d, rfl, _⟩ := h
    rfl
  · obtain ⟨v, d, rfl, hv, q⟩ := h
    obtain ⟨tl, hl⟩ := T.long
    refine ⟨_, pss_one (ps_ret (pe_and (pe_callB call_isi (by rfl) T.isi (by decide +kernel) (pa_cons (pv 0) (pa_cons (pe_bltn (v := .ty "int") (by rfl) T.int (by decide +kernel) rfl) pa_nil)))
      (pe_and (pe_not (pe_callB call_isi (by rfl) T.isi (by decide +kernel) (pa_cons (pv 0) (pa_cons (pe_bltn (v := .ty "bool") (by rfl) T.bool (by decide +kernel) rfl) pa_nil))))
      (pe_one (pe_cmpR op_lt (pe_callB call_abs (by rfl) T.abs (by decide +kernel) (pa_cons (pv 0) pa_nil)) (pe_glob (v := .int (10 ^ 200)) rfl hl ⟨_, rfl⟩) (nomark _)))))), ?_⟩
    obtain ⟨t, ty, k1, _, k3⟩ := Val.ty (K := K) hv
    refine ⟨_, rfl, _, _, _, _, _, rfl, .ty "int", ty, k1, intTy d, rfl, ?_⟩
    cases hv with
    | int n =>
      refine iteT ⟨_, rfl, _, _, _, _, _, rfl, .ty "bool", ty, k3, _, rfl, _, rfl, iteT ?_⟩
      refine ⟨_, rfl, n, rfl, _, _, rfl, rfl, ?_⟩
      show Q (.bl (decide ((if n < 0 then -n else n) < 10 ^ 200))) H
      rw [isInt_abs]
      exact q
    | bl b => exact iteT ⟨_, rfl, _, _, _, _, _, rfl, .ty "bool", ty, k3, _, rfl, _, rfl, iteF q⟩
    | _ => exact iteF q

def spPrime : Sp := fun vs H Q _ => ∃ (v : V) (d : PyData), vs = [v] ∧ Val H v d ∧ Q (.bl (prime d)) H
theorem scPrime : FnScope ["value"] ["value"] (defScope sPrime) := ⟨rfl, rfl, rfl, by decide +kernel, rfl, by decide +kernel, by decide +kernel⟩
theorem in_primes (n : Int) : inV (.int n) [.int 2, .int 3, .int 5, .int 7] = prime (.int n) := by
  show _ = decide (n = 2 ∨ n = 3 ∨ n = 5 ∨ n = 7)
  have e : inV (.int n) [.int 2, .int 3, .int 5, .int 7] = ((2 : Int) == n || ((3 : Int) == n || ((5 : Int) == n || ((7 : Int) == n || false)))) := rfl
  rw [e, Bool.eq_iff_iff]
  simp only [Bool.or_eq_true, beq_iff_eq, decide_eq_true_eq, Bool.false_eq_true, or_false]
  omega
theorem ok_prime {f fI : Addr} {fd fdI : FuncData} (F : Fun K "is_prime" "is_prime" sPrime f fd) (T : Txt K mg) (FI : Fun K "is_integer" "is_integer" sInt fI fdI) (mI : mg "is_integer" = some (.ref fI)) (bI : Binds K fdI ["value"] []) :
    FnOk P w K mg base CX0 2 f fd ["value"] spPrime := by
  have GI : FnOk P w K mg base CX0 1 fI fdI ["value"] spInt := ok_int FI T
  refine F.ok scPrime (fun vs H Q E h => ?_) (fun cdv A outer s H vs Q E hr h => ?_)
  · obtain ⟨v, d, rfl, _⟩ := h
    rfl
  · obtain ⟨v, d, rfl, hv, q⟩ := h
    obtain ⟨pp, hp, hs⟩ := T.primes
    refine ⟨_, pss_one (ps_ret (pe_and (pe_call GI hr (by rfl) mI FI.kp bI .nil pass0 (pa_cons (pv 0) pa_nil))
      (pe_one (pe_cmpR op_in_seq (pv 0) (pe_glob (v := .ref pp) rfl hp rfl) (by rfl))))), ?_⟩
    refine ⟨_, rfl, v, d, rfl, hv, _, rfl, ?_⟩
    cases hv with
    | int n =>
      by_cases hb : isInt (.int n) = true
      · rw [hb]
        refine iteT ⟨_, rfl, pp, _, rfl, .inr (hs _), rfl, rfl, ?_⟩
        have e := in_primes n
        show Q (.bl (if false = true then _ else inV (.int n) _)) H
        rw [if_neg Bool.false_ne_true, e]
        exact q
      · have hb' : isInt (.int n) = false := by simpa using hb
        rw [hb']
        refine iteF ?_
        have e : prime (.int n) = false := by
          refine decide_eq_false fun z => hb (decide_eq_true ?_)
          have h7 : (7 : Nat) < 10 ^ 200 := by decide +kernel
          generalize (10 ^ 200 : Nat) = M at h7 ⊢
          omega
        rw [e] at q
        exact q
    | _ => exact iteF q
end
/-- a def of the text, found under its name -/
structure Df (K : PySem.W.Frag) (mg : Str → Option Value) (x : Str) (st : Stmt) (ps : List Str) (f : Addr) (fd : FuncData) : Prop where
  F : Fun K x x st f fd
  m : mg x = some (.ref f)
  b : Binds K fd ps []

/-! ### rows of one-sign texts as data -/
abbrev onesD (l : List Nat) : List PyData := l.map fun c => PyData.str (one c)
theorem all_ones (K : PySem.W.Frag) (H : Hp) : ∀ l : List Nat, DpAll K H (ones l) (onesD l)
  | [] => .nil
  | c :: l => .cons (.str _) (all_ones K H l)
theorem eqv_ones : ∀ l m : List Nat, PyData.eqvAll (onesD l) (onesD m) = decide (l = m)
  | [], [] => rfl
  | [], _ :: _ => rfl
  | _ :: _, [] => rfl
  | c :: l, d :: m => by
    show ((one c == one d) && PyData.eqvAll (onesD l) (onesD m)) = _
    rw [eqv_ones l m]
    by_cases h : c = d
    · subst h
      simp
    · have e : (one c == one d) = false := beq_eq_false_iff_ne.mpr fun q => h (one_inj q)
      rw [e]
      simp [h]
theorem lay_all (l : List Nat) (h : ∀ c ∈ l, c < 128) : PyData.canLayAll0 (onesD l) = true := by
  induction l with
  | nil => rfl
  | cons c l ih =>
    have hc := h c List.mem_cons_self
    have e1 : PyData.canLay0 (.str (one c)) = true := by
      show (one c).cps.all (· < 0x110000) = true
      simp
      omega
    show (PyData.canLay0 (.str (one c)) && PyData.canLayAll0 (onesD l)) = true
    rw [ih fun d hd => h d (List.mem_cons_of_mem _ hd), e1]
    rfl
theorem deep_all (l : List Nat) : PyData.depthAll (onesD l) ≤ 1 := by
  induction l with
  | nil => decide
  | cons c l ih =>
    show max _ (PyData.depthAll (onesD l)) ≤ 1
    exact Nat.max_le.mpr ⟨(by show 0 ≤ 1; decide), ih⟩
theorem shaped_ones (l : List Nat) (h : ∀ c ∈ l, c < 128) : SeqAt.shaped (.list (onesD l)) = true := by
  unfold SeqAt.shaped
  rw [Bool.and_eq_true]
  refine ⟨lay_all l h, decide_eq_true ?_⟩
  show PyData.depthAll (onesD l) + 1 ≤ 64
  have := deep_all l
  omega

section
variable {P : Program} {w : World} {K : PySem.W.Frag} {mg : Str → Option Value} {base : Heap}
theorem scLetters : FnScope ["value"] ["value"] (defScope sLetters) := ⟨rfl, rfl, rfl, by decide +kernel, rfl, by decide +kernel, by decide +kernel⟩
def spLetters : Sp := fun vs H Q _ => ∃ (v : V) (d : PyData), vs = [v] ∧ Val H v d ∧ Ok d ∧ ∀ H', Same H H' → Q (.bl (letters d)) H'
theorem same_upd {H : Hp} {p : Addr} {o : HO} (h : H p = none) : Same H (upd H p o) := fun b u e => by
  rw [upd_ne (ne_of_none e h)]
  exact e
theorem ok_letters {f fH : Addr} {fd fdH : FuncData} (F : Fun K "is_letters" "is_letters" sLetters f fd) (T : Txt K mg) (DH : Df K mg "has_only" sHas ["value", "signs", "most"] fH fdH) :
    FnOk P w K mg base CX0 2 f fd ["value"] spLetters := by
  have G := ok_has (P := P) (w := w) (base := base) DH.F T
  refine F.ok scLetters (fun vs H Q E h => ?_) (fun cdv A outer s H vs Q E hr h => ?_)
  · obtain ⟨v, d, rfl, _⟩ := h
    rfl
  · obtain ⟨v, d, rfl, hv, hd, q⟩ := h
    obtain ⟨ta, ha⟩ := T.alpha
    obtain ⟨tn, hn⟩ := T.mLet
    refine ⟨_, pss_one (ps_ret (pe_and (pe_call G hr (by rfl) DH.m DH.F.kp DH.b .nil pass0 (pa_cons (pv 0) (pa_cons (pe_glob (v := .str alpha) rfl ha ⟨_, rfl⟩) (pa_cons (pe_glob (v := .int 3) rfl hn ⟨_, rfl⟩) pa_nil))))
      (pe_and (pe_cmpR op_ne (pv 0) pe_str (nomark _))
      (pe_one (pe_cmpR (op_eqD hr.units) (pe_callTy (cr_listTx rfl) (by rfl) T.list (by decide +kernel) (pa_cons (pv 0) pa_nil))
        (pe_callB (cr_sortTx rfl) (by rfl) T.sorted (by decide +kernel) (pa_cons (pe_callTy (cr_setTx rfl) (by rfl) T.set (by decide +kernel) (pa_cons (pv 0) pa_nil)) pa_nil)) (nomark _)))))), ?_⟩
    refine ⟨_, rfl, v, d, alpha, 3, rfl, hv, hd, _, rfl, ?_⟩
    cases hv with
    | str z =>
      have hz : Fine z := hd
      have e0 : letters (.str z) = (has alpha 3 (.str z) && decide (z ≠ Str.empty) && rise z) := rfl
      rw [e0] at q
      cases hb : has alpha 3 (.str z) with
      | true =>
        rw [hb] at q
        refine iteT ⟨_, rfl, rfl, ?_⟩
        have e : (!decide (V.str z = V.str (Str.ofString ""))) = decide (z ≠ Str.empty) := by
          rw [← decide_not]
          exact decide_eq_decide.mpr ⟨fun h e => h (by rw [e]; rfl), fun h e => h (by injection e)⟩
        refine ⟨_, rfl, ?_⟩
        rw [e]
        by_cases hne : z ≠ Str.empty
        · rw [decide_eq_true hne] at q ⊢
          refine iteT ?_
          refine ⟨_, rfl, z, rfl, fine_line hz, fun p1 n1 => ?_⟩
          refine ⟨_, rfl, z, rfl, hz.few, fun p2 n2 => ?_⟩
          refine ⟨p2, cds z, rfl, upd_same, hz.few, fun p3 n3 => ?_⟩
          have s1 : Same H (upd H p1 (.lst (ones (cds z)))) := same_upd n1
          have s2 := same_upd (o := TO w p2 (met [] (cds z))) n2
          have s3 := same_upd (o := .lst (ones (ups (cds z)))) n3
          have h1 := s3 _ _ (s2 _ _ (upd_same (H := H) (a := p1) (o := .lst (ones (cds z)))))
          refine ⟨.list (onesD (cds z)), .list (onesD (ups (cds z))), .lst (SqL.of h1) (all_ones _ _ _), .lst (SqL.of upd_same) (all_ones _ _ _), shaped_ones _ hz.plain, shaped_ones _ (fun c hc => hz.plain c ((ups_mem _ _).mp hc)), ?_⟩
          have e2 : PyData.eqv (.list (onesD (cds z))) (.list (onesD (ups (cds z)))) = rise z := eqv_ones _ _
          rw [e2]
          exact q _ ((s1.trans s2).trans s3)
        · have hne' : decide (z ≠ Str.empty) = false := decide_eq_false hne
          rw [hne'] at q ⊢
          exact iteF (q _ (Same.refl H))
      | false =>
        rw [hb] at q
        exact iteF (q _ (Same.refl H))
    | _ => exact iteF (q _ (Same.refl H))

/-! ### the law's drawer -/
/-- a drawer: three ints -/
def Cup (H : Hp) (c : Addr) : Prop := ∃ a0 a1 a2 : Int, H c = some (.lst [.int a0, .int a1, .int a2])
/-- all but what stands at c stays -/
def But (c : Addr) (H H' : Hp) : Prop := ∀ b o, b ≠ c → H b = some o → H' b = some o
theorem But.refl (c : Addr) (H : Hp) : But c H H := fun _ _ _ e => e
theorem But.trans {c : Addr} {H H1 H2 : Hp} (a : But c H H1) (b : But c H1 H2) : But c H H2 := fun x o n e => b x o n (a x o n e)
theorem But.of {c : Addr} {H H' : Hp} (s : Same H H') : But c H H' := fun b o _ e => s b o e
theorem But.put {c : Addr} {H : Hp} {o : HO} : But c H (upd H c o) := fun b u n e => by rw [upd_ne n]; exact e

def spCup (K : PySem.W.Frag) : Sp := fun vs H Q _ => ∃ (a : Addr) (ns : List Int) (k : Nat), vs = [.ref a, .int k] ∧ SqL K H a (ns.map V.int) ∧ ns.length ≤ 63 ∧ k ≤ 100 ∧ ∀ p H', H p = none → Same H H' → Cup H' p → Q (.ref p) H'
theorem scCup : FnScope ["_law_script", "_law_at", "_law_cell", "_law_great", "_law_blend"] ["_law_script", "_law_at"] (defScope sCup) := ⟨rfl, rfl, rfl, by decide +kernel, rfl, by decide +kernel, by decide +kernel⟩
theorem ok_cup {f : Addr} {fd : FuncData} (F : Fun K "_law_cup" "_law_cup" sCup f fd) (T : Txt K mg) : FnOk P w K mg base CX0 1 f fd ["_law_script", "_law_at"] (spCup K) := by
  refine F.ok scCup (fun vs H Q E h => ?_) (fun cdv A outer s H vs Q E hr h => ?_)
  · obtain ⟨a, ns, k, rfl, _⟩ := h
    rfl
  · obtain ⟨a, ns, k, rfl, hS, hlen, hk, q⟩ := h
    refine ⟨_, pss_cons (ps_set (i := 2) scCup.nd rfl (Or.inl rfl) (pe_ifExp (pt_cmpR op_lt (pv 1) (pe_callB call_len (by rfl) T.len PySem.boot_len (pa_cons (pv 0) pa_nil)) (nomark _))
        (pe_ix ix_list (pv 0) (pv 1) (fun _ _ => rfl)) (pe_op op_add (pe_op op_mul pe_int (pv 1)) pe_int)))
      (pss_cons (ps_set (i := 3) scCup.nd rfl (Or.inl rfl) (pe_op op_modN (pe_callTy call_int1 (by rfl) T.int (by decide +kernel) (pa_cons (pe_callB call_abs (by rfl) T.abs (by decide +kernel) (pa_cons (pv 2) pa_nil)) pa_nil))
        (pe_op op_powW (pe_op op_pow pe_int pe_int) pe_int)))
      (pss_cons (ps_set (i := 4) scCup.nd rfl (Or.inl rfl) (pe_op op_add (pe_op op_add (pe_op op_add
          (pe_op op_mul (pe_op op_modN (pe_callTy call_int1 (by rfl) T.int (by decide +kernel) (pa_cons (pv 3) pa_nil)) pe_int) pe_int) (pe_op op_mul pe_int (pv 1)))
          (pe_op op_mul pe_int (pe_callTy call_int1 (by rfl) T.int (by decide +kernel) (pa_cons (pe_cmpR op_lt (pv 2) pe_int (nomark _)) pa_nil)))) pe_int))
      (pss_one (ps_ret (pe_lst (pa_cons (pe_callB (call_max2 rfl) (by rfl) T.max (by decide +kernel) (pa_cons pe_int (pa_cons (pe_op op_sub (pv 3) (pe_op op_pow pe_int pe_int)) pa_nil)))
        (pa_cons (pe_op op_modN (pe_callTy call_int1 (by rfl) T.int (by decide +kernel) (pa_cons (pv 4) pa_nil)) pe_int) (pa_cons pe_int pa_nil)))))))), ?_⟩
    refine ⟨_, rfl, _, rfl, _, ns.length, rfl, .inl ⟨_, hS, by rw [List.length_map]⟩, _, _, rfl, rfl, _, rfl, ?_⟩
    refine ite2 (fun hc => ?_) (fun _ => ?_)
    · have hk2 : k < ns.length := by
        have := of_decide_eq_true hc
        omega
      refine ⟨_, rfl, _, rfl, a, _, _, .int ns[k], rfl, rfl, hS, atI_nat (by rw [List.getElem?_map, List.getElem?_eq_getElem hk2]; rfl), ?_⟩
      refine ⟨_, rfl, _, rfl, .inl ⟨_, rfl, _, _, rfl, rfl, ⟨by decide, by decide, by decide⟩, _, _, rfl, rfl, ⟨by decide, by decide +kernel⟩, _, _, rfl, rfl, (show (((10 : Int) ^ Int.toNat 61) ^ Int.toNat 11) ≠ 0 by decide +kernel), ?_⟩⟩
      refine ⟨_, rfl, .inl ⟨_, rfl, _, _, rfl, rfl, (show (2147483179 : Int) ≠ 0 by decide), _, _, rfl, rfl, .inr ⟨by decide, by decide⟩, _, rfl, _, _, rfl, rfl, .inl ⟨by decide, by decide⟩, _, _, rfl, rfl, _, rfl, _, _, rfl, rfl,
        .inr ⟨_, rfl, _, _, rfl, rfl, .inl ⟨by decide, by decide⟩, _, _, rfl, rfl, _, _, rfl, rfl, ?_⟩⟩⟩
      refine ⟨_, rfl, _, _, rfl, rfl, ⟨by decide, by decide, by decide⟩, _, _, rfl, rfl, _, _, rfl, _, rfl, .inl ⟨_, rfl, _, _, rfl, rfl, (show (2305843009213693907 : Int) ≠ 0 by decide), by show 3 ≤ sizeLine; decide, fun p hp => ?_⟩⟩
      exact q p _ hp (same_upd hp) ⟨_, _, _, upd_same⟩
    · refine ⟨_, rfl, _, _, rfl, rfl, .inl ⟨by decide, by decide⟩, _, _, rfl, rfl, ?_⟩
      refine ⟨_, rfl, _, rfl, .inl ⟨_, rfl, _, _, rfl, rfl, ⟨by decide, by decide, by decide⟩, _, _, rfl, rfl, ⟨by decide, by decide +kernel⟩, _, _, rfl, rfl, (show (((10 : Int) ^ Int.toNat 61) ^ Int.toNat 11) ≠ 0 by decide +kernel), ?_⟩⟩
      refine ⟨_, rfl, .inl ⟨_, rfl, _, _, rfl, rfl, (show (2147483179 : Int) ≠ 0 by decide), _, _, rfl, rfl, .inr ⟨by decide, by decide⟩, _, rfl, _, _, rfl, rfl, .inl ⟨by decide, by decide⟩, _, _, rfl, rfl, _, rfl, _, _, rfl, rfl,
        .inr ⟨_, rfl, _, _, rfl, rfl, .inl ⟨by decide, by decide⟩, _, _, rfl, rfl, _, _, rfl, rfl, ?_⟩⟩⟩
      refine ⟨_, rfl, _, _, rfl, rfl, ⟨by decide, by decide, by decide⟩, _, _, rfl, rfl, _, _, rfl, _, rfl, .inl ⟨_, rfl, _, _, rfl, rfl, (show (2305843009213693907 : Int) ≠ 0 by decide), by show 3 ≤ sizeLine; decide, fun p hp => ?_⟩⟩
      exact q p _ hp (same_upd hp) ⟨_, _, _, upd_same⟩

def spBit : Sp := fun vs H Q _ => ∃ (c : Addr) (m : Int), vs = [.ref c, .int m] ∧ Cup H c ∧ 0 < m ∧ m.natAbs < 2 ^ 9000 ∧ ∀ r H', 0 ≤ r → r < m → Cup H' c → But c H H' → Q (.int r) H'
theorem scBit : FnScope ["_law_cup_here", "_law_much", "_law_found", "_law_first", "_law_later"] ["_law_cup_here", "_law_much"] (defScope sBit) := ⟨rfl, rfl, rfl, by decide +kernel, rfl, by decide +kernel, by decide +kernel⟩
theorem ok_bit {f : Addr} {fd : FuncData} (F : Fun K "_law_bit" "_law_bit" sBit f fd) (T : Txt K mg) : FnOk P w K mg base CX0 1 f fd ["_law_cup_here", "_law_much"] spBit := by
  refine F.ok scBit (fun vs H Q E h => ?_) (fun cdv A outer s H vs Q E hr h => ?_)
  · obtain ⟨c, m, rfl, _⟩ := h
    rfl
  · obtain ⟨c, m, rfl, ⟨a0, a1, a2, hc⟩, hm, hm2, q⟩ := h
    refine ⟨_, pss_cons (ps_if (pt_cmpR op_gt (pe_ix ix_list (pv 0) pe_int (fun _ _ => rfl)) pe_int (nomark _))
        (pss_cons (ps_set (i := 2) scBit.nd rfl (Or.inl rfl) (pe_op op_modN (pe_callTy call_int1 (by rfl) T.int (by decide +kernel) (pa_cons (pe_ix ix_list (pv 0) pe_int (fun _ _ => rfl)) pa_nil)) (pv 1)))
        (pss_cons (ps_asg (pe_op op_fdivW (pe_ix ix_list (pv 0) pe_int (fun _ _ => rfl)) (pv 1)) (pg_sub (pv 0) pe_int set_list))
        (pss_one (ps_ret (pv 2))))) pss_nil)
      (pss_cons (ps_asg (pe_op op_add (pe_ix ix_list (pv 0) pe_int (fun _ _ => rfl)) pe_int) (pg_sub (pv 0) pe_int set_list))
      (pss_cons (ps_set (i := 3) scBit.nd rfl (Or.inl rfl) (pe_op op_modN (pe_callTy call_int1 (by rfl) T.int (by decide +kernel) (pa_cons (pe_op op_add (pe_ix ix_list (pv 0) pe_int (fun _ _ => rfl))
          (pe_op op_mul pe_int (pe_ix ix_list (pv 0) pe_int (fun _ _ => rfl)))) pa_nil)) pe_int))
      (pss_cons (ps_set (i := 4) scBit.nd rfl (Or.inl rfl) (pe_op op_add (pe_op op_mul (pe_op op_modN (pe_callTy call_int1 (by rfl) T.int (by decide +kernel) (pa_cons (pe_op op_mul (pv 3) (pv 3)) pa_nil)) pe_int) (pv 3))
          (pe_op op_mul pe_int (pe_ix ix_list (pv 0) pe_int (fun _ _ => rfl)))))
      (pss_one (ps_ret (pe_op op_modN (pe_callTy call_int1 (by rfl) T.int (by decide +kernel) (pa_cons (pe_op op_fdivN (pe_op op_modN (pe_callTy call_int1 (by rfl) T.int (by decide +kernel) (pa_cons (pv 4) pa_nil)) pe_int) pe_int) pa_nil)) (pv 1))))))), ?_⟩
    have at0 : ∀ {x y z : V}, atI [x, y, z] (0 : Int) = some x := rfl
    have at1 : ∀ {x y z : V}, atI [x, y, z] (1 : Int) = some y := rfl
    have at2 : ∀ {x y z : V}, atI [x, y, z] (2 : Int) = some z := rfl
    have rest : ∀ i : Int, 0 ≤ i.fmod m ∧ i.fmod m < m := fun i => by
      rw [Int.fmod_eq_emod_of_nonneg i (Int.le_of_lt hm)]
      exact ⟨Int.emod_nonneg i (Int.ne_of_gt hm), Int.emod_lt_of_pos i hm⟩
    refine ⟨_, rfl, c, _, _, _, rfl, rfl, SqL.of hc, at0, _, _, rfl, rfl, _, rfl, ?_⟩
    refine ite2 (fun _ => ?_) (fun _ => ?_)
    · refine ⟨_, rfl, c, _, _, _, rfl, rfl, SqL.of hc, at0, .inl ⟨_, rfl, _, rfl, _, _, rfl, rfl, (Int.ne_of_gt hm), ?_⟩⟩
      refine ⟨_, rfl, c, _, _, _, rfl, rfl, SqL.of hc, at0, _, rfl, _, _, rfl, rfl, wide_div hm hm2 (by decide) (by decide), ?_⟩
      refine ⟨_, rfl, c, _, _, 0, rfl, rfl, hc, rfl, ?_⟩
      exact ⟨_, rfl, q _ _ (rest _).1 (rest _).2 ⟨_, _, _, upd_same⟩ But.put⟩
    · refine ⟨_, rfl, c, _, _, _, rfl, rfl, SqL.of hc, at2, _, _, rfl, rfl, _, rfl, c, _, _, 2, rfl, rfl, hc, rfl, ?_⟩
      have hc2 : (upd H c (.lst ([.int a0, .int a1, .int a2].set 2 (.int (a2 + 1))))) c = some (.lst [.int a0, .int a1, .int (a2 + 1)]) := upd_same
      refine ⟨_, rfl, c, _, _, _, rfl, rfl, SqL.of hc2, at1, _, rfl, c, _, _, _, rfl, rfl, SqL.of hc2, at2, _, _, rfl, rfl, .inl ⟨by decide, by decide⟩, _, _, rfl, rfl, .inl ⟨_, rfl, _, _, rfl, rfl, (show (2305843009213693951 : Int) ≠ 0 by decide), ?_⟩⟩
      have f1 := Int.emod_nonneg (a1 + 1000541 * (a2 + 1)) (b := 2305843009213693951) (by decide)
      have f2 := Int.emod_lt_of_pos (a1 + 1000541 * (a2 + 1)) (b := 2305843009213693951) (by decide)
      rw [← Int.fmod_eq_emod_of_nonneg (a1 + 1000541 * (a2 + 1)) (b := 2305843009213693951) (by decide)] at f1 f2
      have f3 : -(2 ^ 64 : Int) < Int.fmod (a1 + 1000541 * (a2 + 1)) 2305843009213693951 ∧ Int.fmod (a1 + 1000541 * (a2 + 1)) 2305843009213693951 < 2 ^ 64 :=
        ⟨Int.lt_of_lt_of_le (by decide) f1, Int.lt_trans f2 (by decide)⟩
      refine ⟨_, rfl, _, rfl, _, _, rfl, rfl, .inl f3, .inl ⟨_, rfl, _, _, rfl, rfl, (show (2305843009213693921 : Int) ≠ 0 by decide), _, rfl, _, _, rfl, rfl, .inr f3, _, rfl, c, _, _, _, rfl, rfl, SqL.of hc2, at2,
        _, _, rfl, rfl, .inl ⟨by decide, by decide⟩, _, _, rfl, rfl, ?_⟩⟩
      refine ⟨_, rfl, .inl ⟨_, rfl, _, _, rfl, rfl, (show (2305843009213693907 : Int) ≠ 0 by decide), _, _, rfl, rfl, (show (16384 : Int) ≠ 0 ∧ (16384 : Int).natAbs < 1073741824 by decide), .inl ⟨_, rfl, _, rfl, _, _, rfl, rfl, (Int.ne_of_gt hm), ?_⟩⟩⟩
      exact q _ _ (rest _).1 (rest _).2 ⟨_, _, _, hc2⟩ But.put
/-! ### drawing -/
theorem scPick : FnScope ["_law_cup_here", "_law_items"] ["_law_cup_here", "_law_items"] (defScope sPick) := ⟨rfl, rfl, rfl, by decide +kernel, rfl, by decide +kernel, by decide +kernel⟩
def spPick : Sp := fun vs H Q _ => ∃ (c : Addr), Cup H c ∧
  ((∃ (p : Addr) (xs : List V), vs = [.ref c, .ref p] ∧ p ≠ c ∧ H p = some (.lst xs) ∧ 0 < xs.length ∧ xs.length < 100 ∧ ∀ x H', x ∈ xs → Cup H' c → But c H H' → Q x H') ∨
   (∃ z : Str, vs = [.ref c, .str z] ∧ 0 < z.length ∧ z.length < 100 ∧ ∀ s H', s ∈ cds z → Cup H' c → But c H H' → Q (.str (one s)) H'))
theorem ok_pick {f fB : Addr} {fd fdB : FuncData} (F : Fun K "_law_pick" "_law_pick" sPick f fd) (T : Txt K mg) (DB : Df K mg "_law_bit" sBit ["_law_cup_here", "_law_much"] fB fdB) :
    FnOk P w K mg base CX0 2 f fd ["_law_cup_here", "_law_items"] spPick := by
  have G := ok_bit (P := P) (w := w) (base := base) DB.F T
  refine F.ok scPick (fun vs H Q E h => ?_) (fun cdv A outer s H vs Q E hr h => ?_)
  · obtain ⟨c, _, h⟩ := h
    rcases h with ⟨p, xs, rfl, _⟩ | ⟨z, rfl, _⟩ <;> rfl
  · obtain ⟨c, hc, h⟩ := h
    refine ⟨_, pss_one (ps_ret (pe_ix ix_seq (pv 1) (pe_call G hr (by rfl) DB.m DB.F.kp DB.b .nil pass0 (pa_cons (pv 0) (pa_cons (pe_callB call_len (by rfl) T.len PySem.boot_len (pa_cons (pv 1) pa_nil)) pa_nil))) (fun _ _ => rfl))), ?_⟩
    have small : ∀ n : Nat, n < 100 → (n : Int).natAbs < 2 ^ 9000 := fun n hn => Nat.lt_of_lt_of_le (show (n : Int).natAbs < 2 ^ 7 by omega) (Nat.pow_le_pow_right (by decide) (by decide))
    rcases h with ⟨p, xs, rfl, hpc, hp, h0, h1, q⟩ | ⟨z, rfl, h0, h1, q⟩
    · refine ⟨_, rfl, _, rfl, _, rfl, _, xs.length, rfl, .inl ⟨_, SqL.of hp, rfl⟩, c, xs.length, rfl, hc, by omega, small _ h1, fun r H' r0 r1 hc' but => ?_⟩
      obtain ⟨n, rfl⟩ := Int.eq_ofNat_of_zero_le r0
      have hn : n < xs.length := by omega
      exact .inl ⟨p, xs, _, xs[n], rfl, rfl, SqL.of (but _ _ hpc hp), atI_nat (List.getElem?_eq_getElem hn), q _ _ (List.getElem_mem hn) hc' but⟩
    · have hl : z.length ≤ sizeLine := Nat.le_trans (Nat.le_of_lt h1) (by decide)
      refine ⟨_, rfl, _, rfl, _, rfl, _, z.length, rfl, ⟨hl, rfl⟩, c, z.length, rfl, hc, by omega, small _ h1, fun r H' r0 r1 hc' but => ?_⟩
      obtain ⟨n, rfl⟩ := Int.eq_ofNat_of_zero_le r0
      have hn : n < (cds z).length := by rw [cds_len]; omega
      exact .inr (.inr ⟨z, _, (cds z)[n], rfl, rfl, hl, atI_nat (List.getElem?_eq_getElem hn), q _ _ (List.getElem_mem hn) hc' but⟩)

def Signs (z : Str) : Prop := z = "ab" ∨ z = "xy" ∨ z = "a" ∨ z = "abc"
def spSigns : Sp := fun vs H Q _ => ∃ (c : Addr), vs = [.ref c] ∧ Cup H c ∧ ∀ z H', Signs z → Cup H' c → But c H H' → Q (.str z) H'
theorem scSigns : FnScope ["_law_cup_here"] ["_law_cup_here"] (defScope sSigns) := ⟨rfl, rfl, rfl, by decide +kernel, rfl, by decide +kernel, by decide +kernel⟩
theorem Cup.same {H H' : Hp} {c : Addr} (s : Same H H') (h : Cup H c) : Cup H' c := let ⟨a, b, d, e⟩ := h; ⟨a, b, d, s _ _ e⟩
theorem Cup.ne {H : Hp} {c p : Addr} (h : Cup H c) (n : H p = none) : p ≠ c := by
  obtain ⟨a, b, d, e⟩ := h
  exact (ne_of_none e n).symm
theorem ok_signs {f fB fP : Addr} {fd fdB fdP : FuncData} (F : Fun K "_law_signs" "_law_signs" sSigns f fd) (T : Txt K mg) (DB : Df K mg "_law_bit" sBit ["_law_cup_here", "_law_much"] fB fdB)
    (DP : Df K mg "_law_pick" sPick ["_law_cup_here", "_law_items"] fP fdP) : FnOk P w K mg base CX0 3 f fd ["_law_cup_here"] spSigns := by
  have G := ok_pick (P := P) (w := w) (base := base) DP.F T DB
  refine F.ok scSigns (fun vs H Q E h => ?_) (fun cdv A outer s H vs Q E hr h => ?_)
  · obtain ⟨c, rfl, _⟩ := h
    rfl
  · obtain ⟨c, rfl, hc, q⟩ := h
    refine ⟨_, pss_one (ps_ret (pe_call G hr (by rfl) DP.m DP.F.kp DP.b .nil pass0 (pa_cons (pv 0) (pa_cons (pe_lst (pa_cons pe_str (pa_cons pe_str (pa_cons pe_str (pa_cons pe_str (pa_cons pe_str (pa_cons pe_str pa_nil))))))) pa_nil)))), ?_⟩
    refine ⟨_, rfl, by show 6 ≤ sizeLine; decide, fun p np => ⟨c, hc.same (same_upd np), .inl ⟨p, _, rfl, hc.ne np, upd_same, by decide, by decide, fun x H' hx hc' but => ?_⟩⟩⟩
    have b2 : But c H H' := (But.of (same_upd np)).trans but
    simp only [List.mem_cons, List.not_mem_nil, or_false] at hx
    rcases hx with rfl | rfl | rfl | rfl | rfl | rfl
    · exact q _ _ (.inl rfl) hc' b2
    · exact q _ _ (.inl rfl) hc' b2
    · exact q _ _ (.inl rfl) hc' b2
    · exact q _ _ (.inr (.inl rfl)) hc' b2
    · exact q _ _ (.inr (.inr (.inl rfl))) hc' b2
    · exact q _ _ (.inr (.inr (.inr rfl))) hc' b2
end
end K9
set_option Elab.async false
set_option linter.all false
set_option maxRecDepth 100000
set_option maxHeartbeats 3200000
namespace K9
open PySem PySem.Spec PyProof.Rows L2 Tx Tg Tm
/-! ### two clauses -/
/-- what stands behind the second source -/
def In2 (J1 : It) (g1 : TG) (tt1 : TT) (te : TE) (vs1 : List Nat) (σ2 : L2.St) (D : Addr) (Nx : Hp → Prop) (H4 : Hp) : Prop :=
  ∃ W1 : Nat → Nat → Hp → Prop, (∃ m, W1 0 m H4) ∧ ∀ j k H, W1 j k H →
      (J1.stop j H ∧ Nx H) ∨ (J1.go j H ∧ ∃ Nx1 : Hp → Prop, (∀ H', Nx1 H' → ∃ k', k' < k ∧ W1 (j + 1) k' H') ∧ ∀ x H', J1.yld j H x H' → g1 x (wipe σ2 vs1) H' fun σ3 H5 => wipe σ3 vs1 = wipe σ2 vs1 ∧ tt1 σ3 H5 fun b H6 =>
        if b = true then te σ3 H6 fun y H7 => ∃ acc, H7 D = some (.lst acc) ∧ acc.length < sizeLine ∧ Nx1 (upd H7 D (.lst (acc ++ [y]))) else Nx1 H6)
section
variable {J J1 : It} {n n1 : Nat} {G G1 : Hp → Prop} {Y Y1 : Nat → Hp → V → Hp → Prop}
theorem lc2_in (w : Walk J1 n1 G1 Y1) {g1 : TG} {tt1 : TT} {te : TE} {vs1 : List Nat} {σ2 : L2.St} {D : Addr} {Nx : Hp → Prop} {H4 : Hp} (Pw : Nat → Hp → Prop) (h0 : Pw 0 H4) (hG : ∀ j H, j ≤ n1 → Pw j H → G1 H)
    (hs : ∀ j x H H', j < n1 → Pw j H → Y1 j H x H' → g1 x (wipe σ2 vs1) H' fun σ3 H5 => wipe σ3 vs1 = wipe σ2 vs1 ∧ tt1 σ3 H5 fun b H6 =>
      if b = true then te σ3 H6 fun y H7 => ∃ acc, H7 D = some (.lst acc) ∧ acc.length < sizeLine ∧ Pw (j + 1) (upd H7 D (.lst (acc ++ [y]))) else Pw (j + 1) H6)
    (hd : ∀ H, Pw n1 H → Nx H) : In2 J1 g1 tt1 te vs1 σ2 D Nx H4 := by
  refine ⟨fun j k H => k = n1 - j ∧ j ≤ n1 ∧ Pw j H, ⟨n1, by simp, Nat.zero_le _, h0⟩, ?_⟩
  rintro j k H ⟨rfl, hj, p⟩
  have q := hG j H hj p
  rcases Nat.lt_or_ge j n1 with hlt | hge
  · exact .inr ⟨w.goes j H hlt q, Pw (j + 1), fun H' p' => ⟨n1 - (j + 1), by omega, rfl, hlt, p'⟩, fun x H' y => hs j x H H' hlt p (w.yields j H x H' hlt q y)⟩
  · obtain rfl : j = n1 := Nat.le_antisymm hj hge
    exact .inl ⟨w.stops H q, hd H p⟩
theorem lc2_out (w : Walk J n G Y) {g g1 : TG} {tt tt1 : TT} {wi1 : TI} {te : TE} {vs vs1 : List Nat} {σ : L2.St} {H1 : Hp} {D : Addr} {Qd : Hp → Prop} (Pv : Nat → Hp → Prop) (h0 : Pv 0 (upd H1 D (.lst []))) (hG : ∀ i H, i ≤ n → Pv i H → G H)
    (hs : ∀ i x H H', i < n → Pv i H → Y i H x H' → g x (wipe σ vs) H' fun σ2 H2 => wipe σ2 vs = wipe σ vs ∧ tt σ2 H2 fun b H3 =>
      if b = true then wi1 σ2 H3 fun J1 H4 => In2 J1 g1 tt1 te vs1 σ2 D (Pv (i + 1)) H4 else Pv (i + 1) H3) (hd : ∀ H, Pv n H → Qd H) :
    ∃ W : Nat → Nat → Hp → Prop, (∃ m, W 0 m (upd H1 D (.lst []))) ∧ ∀ i m H, W i m H →
      (J.stop i H ∧ Qd H) ∨ (J.go i H ∧ ∃ Nx : Hp → Prop, (∀ H', Nx H' → ∃ m', m' < m ∧ W (i + 1) m' H') ∧ ∀ x H', J.yld i H x H' → g x (wipe σ vs) H' fun σ2 H2 => wipe σ2 vs = wipe σ vs ∧ tt σ2 H2 fun b H3 =>
        if b = true then wi1 σ2 H3 fun J1 H4 => In2 J1 g1 tt1 te vs1 σ2 D Nx H4 else Nx H3) := by
  refine ⟨fun i m H => m = n - i ∧ i ≤ n ∧ Pv i H, ⟨n, by simp, Nat.zero_le _, h0⟩, ?_⟩
  rintro i m H ⟨rfl, hi, p⟩
  have q := hG i H hi p
  rcases Nat.lt_or_ge i n with hlt | hge
  · exact .inr ⟨w.goes i H hlt q, Pv (i + 1), fun H' p' => ⟨n - (i + 1), by omega, rfl, hlt, p'⟩, fun x H' y => hs i x H H' hlt p (w.yields i H x H' hlt q y)⟩
  · obtain rfl : i = n := Nat.le_antisymm hi hge
    exact .inl ⟨w.stops H q, hd H p⟩
end
/-! ### text_order as a key -/
/-- the key of a text -/
def keyD (z : Str) : PyData := .tuple [.int z.length, .str z]
theorem scOrder : FnScope ["text"] ["text"] (defScope sOrder) := ⟨rfl, rfl, rfl, by decide +kernel, rfl, by decide +kernel, by decide +kernel⟩
theorem ld_own {X : Cx} {pins : List (Addr × Obj)} {σ : L2.St} {H : Hp} {s : Shared} {E : Value → Shared → Prop} {i : Nat} {x : Str} {v : V} {pos : Pos} {Q : Value → Shared → Prop} (I : Inv X pins σ H s) (hN : X.N[i]? = some x) (hv : Vis X.env.scope x) (e : σ[i]? = some (some v))
    (h : ∀ u, RelV v u → Q u s) (hd : (x == ("__debug__" : Str)) = false := by decide) (hcd : (x == ("__classdict__" : Str)) = false := by decide) : wpAny (model X.prog X.w) X.A (eval (.Name x pos) X.env) Q E s := by
  obtain ⟨m, hn, hl⟩ := I.loc
  obtain ⟨u, r, l⟩ := hl i x v hN e hv
  have fin := h u r
  rcases l with ⟨hk, hm⟩ | ⟨hk, c, hc, hcell⟩
  · exact wpAny_Name (wpAny_loadName_local I.ok.kind hk hn hm fin) hd
  · rcases hk with hk | hk
    · exact wpAny_Name (wpAny_loadName_cell I.ok.kind hk hc hcell fin) hd
    · exact wpAny_Name (wpAny_loadName_free I.ok.kind hk hc hcell fin hcd) hd
section
variable {P : Program} {w : World} {K : PySem.W.Frag} {mg : Str → Option Value} {base : Heap}
theorem key_call {A : Around} {outer : List Env} {s : Shared} {H : Hp} {f : Addr} {fd : FuncData} {z : Str} {t : Tok} (F : Fun K "text_order" "text_order" sOrder f fd) (len : mg "len" = none) (hb : Binds K fd ["text"] []) (room : Room 1 A) (e0 : Env0 P w K mg base A outer s H)
    (hz : z.length ≤ sizeLine) : wpAny (model P w) A (call (.ref f) [.str z t]) (PySem.W.KeyPure (keyD z) s) (fun _ _ => False) s := by
  obtain ⟨oc, od, kV, doc, pm, an, cdv, ct, osl, e, look, code⟩ := F.ex
  subst e
  have inK : K.In s.heap := e0.mod.kin.keeps fun b o e => (e0.bs b o e).1
  have limit : s.heap.NoLimit := e0.mod.nolimit.keeps fun b o e => (e0.bs b o e).1
  have bound := hb s [.str z t] inK rfl
  have kinds : ∀ y ∈ (["text"] : List Str).zip [Value.str z t], (defScope sOrder).names.lookup y.1 = some .local ∨
      ((defScope sOrder).names.lookup y.1 = some .cell ∧ ((cellsFrom (s.heap.objs.size + 1) (defScope sOrder).names []).lookup y.1).isSome = true) := by
    rintro ⟨n, v⟩ hy
    cases scOrder.par n (List.of_mem_zip hy).1 with
    | inl q => exact .inl q
    | inr q => exact .inr ⟨q, PySem.W.cellsFrom_some _ _ _ (.inl q)⟩
  refine wpAny_call ?_
  refine codeAny_call_function room.depth (inK _ _ look) rfl scOrder.co scOrder.gen rfl (PySem.W.codeRec_of inK code) (bound _ _ _ _ ?_)
  refine wpAny_newFunctionEnv_cells scOrder.kind kinds fun env he s1 x => ?_
  subst he
  refine ⟨limit.keeps x.toInCall.keep, codeAny_func ?_⟩
  have J0 : Inv (cxOf CX0 P w K mg base ["text"] "text_order" (defScope sOrder) f cdv A outer s H (fun _ _ _ => False)) [] (start ["text"] [.str z]) H s1 := inv_start scOrder room.hd e0 rfl (.cons ⟨_, rfl⟩ .nil) x
  obtain ⟨h1, tk, rfl, hk⟩ := x.done
  refine wpAny_execs_cons (wpAny_Return_some (wpAny_Tuple_spliced ?_))
  refine Calls.spliced_cons (wpAny_Call_Name_kw (ld_blt (u := .builtin "len") J0 (by rfl) len PySem.boot_len ?_))
  refine PyProof.Rows.callWith_builtin1 (Calls.spliced_cons (ld_own (i := 0) J0 rfl (.inl rfl) rfl fun u r => Calls.spliced_nil ?_)) rfl rfl
  obtain ⟨t1, rfl⟩ := r
  have hn := line63
  refine len_str (by omega) ?_
  refine Calls.spliced_cons (ld_own (i := 0) (J0.tok _) rfl (.inl rfl) rfl fun u r => Calls.spliced_nil ?_)
  obtain ⟨t2, rfl⟩ := r
  refine ⟨by show 2 ≤ sizeLine; decide, ?_⟩
  refine ⟨_, _, rfl, fun b o e => Heap.get?_push_of_some _ (hk b o e), ?_⟩
  exact .tuple (Heap.get?_push_size _ rfl) rfl rfl (.cons (.int _ _) (.cons (.str _ _) .nil))
end
/-- how texts lie behind sorted(.., key=text_order) -/
abbrev leK : Str → Str → Bool := PySem.W.dataLe false keyD
def rSortBy (K : PySem.W.Frag) (f : Addr) : List V → List V → Hp → VK → Prop := fun vs zs H Q => ∃ (a : Addr) (l : List Str), vs = [V.ref a] ∧ zs = [V.ref f] ∧ SqL K H a (l.map V.str) ∧ l.length ≤ 5000 ∧ (∀ z ∈ l, z.length ≤ sizeLine) ∧
  ∀ p, H p = none → Q (.ref p) (upd H p (.lst ((l.mergeSort leK).map V.str)))
theorem each_strs : ∀ {us : List Value} {l : List Str}, StrsAre us l → PySem.W.EachIs (fun (v : Value) (z : Str) => ∃ t, v = .str z t) us l
  | _, _, .nil => .nil
  | _, _, .cons x t h => .cons ⟨t, rfl⟩ (each_strs h)
theorem strs_each : ∀ {us : List Value} {l : List Str}, PySem.W.EachIs (fun (v : Value) (z : Str) => ∃ t, v = .str z t) us l → Vals (l.map V.str) us
  | _, _, .nil => .nil
  | _, _, .cons ⟨t, e⟩ h => .cons ⟨t, e⟩ (strs_each h)
theorem cr_sortedBy {X : Cx} {f : Addr} {fd : FuncData} (F : Fun X.K "text_order" "text_order" sOrder f fd) (len : X.mg "len" = none) (hb : Binds X.K fd ["text"] []) (room : Room 3 X.A) : CallRK X (.builtin "sorted") [Str.ofString "key"] (rSortBy X.K f) := by
  intro pins s σ H vs zs us ws Q I r rz h
  obtain ⟨a, l, rfl, rfl, hs, hl, hz, q⟩ := h
  obtain rfl := Vals.ref1 r
  obtain ⟨w1, rfl, e1⟩ := vals1 rz
  obtain rfl : w1 = Value.ref f := e1
  obtain ⟨its, rv, hL, _⟩ := I.list hs
  have e := each_strs rv.strs
  have room2 : Room 1 X.A.in1.in1 := room.in1.in1
  refine PySem.W.sorted_key_data (b := false) keyD hL.isList e (PySem.W.AllAlike.of fun _ _ => by simp [PySem.W.alike, PySem.W.alikeAll, keyD]) (PySem.W.Sortable.tuples fun _ => ⟨_, _, rfl⟩) (Nat.le_trans hl (by decide)) (fun z _ => ?_)
    (PyProof.Rows.ksk_s1 _ _) (fun _ => PyProof.Rows.ksk_l1 _ _) (fun _ => PyProof.Rows.ksk_t1 _ _) (fun v z hv hm h tk kp => ?_) fun out c h' tk kp fresh hD hlen eo => ?_
  · have hd : (keyD z).depth = 1 := by simp [keyD, PyData.depth, PyData.depthAll]
    have := room.units
    omega
  · obtain ⟨t, rfl⟩ := hv
    have I' : Inv X pins σ H { s with heap := h, toks := tk } := I.kept kp
    have e0 := I'.env0
    exact key_call F len hb room2 ⟨e0.frames, e0.mod, e0.bs, e0.bsz, e0.funs, e0.frf, e0.hok, e0.bare⟩ (hz z hm)
  · have hv := strs_each eo
    refine ⟨.ref _, upd H (s.heap.objs.size + 1) (.lst ((l.mergeSort leK).map V.str)), I.laid (t' := tk) kp (Nat.le_succ _) ⟨?_, out, c, hv, hD⟩, rfl, q _ (I.hok.fresh (Nat.le_succ _))⟩
    rw [List.length_map, List.length_mergeSort]
    exact Nat.le_trans hl (by decide)
end K9
set_option Elab.async false
set_option linter.all false
set_option maxRecDepth 100000
set_option maxHeartbeats 3200000
namespace K9
open PySem L2 Tx Tg Tm
/-! ### all texts -/
def growL (sg : Str) (l : List Str) : List Str := l.flatMap fun t => (cds sg).map fun c => t ++ one c
def lays (sg : Str) : Nat → List Str × List Str
  | 0 => ([""], [""])
  | n + 1 => ((lays sg n).1 ++ growL sg (lays sg n).2, growL sg (lays sg n).2)
def allT (sg : Str) (n : Nat) : List Str := (lays sg n).1
def Bd (sg : Str) (n : Nat) : Bool := decide ((lays sg n).1.length ≤ 400) && decide ((lays sg n).2.length ≤ 400) && (lays sg n).1.all (fun t => decide (t.length ≤ 5)) && (lays sg n).2.all (fun t => decide (t.length ≤ 5))
theorem bd_all {sg : Str} (h : Signs sg) : ∀ n ≤ 5, Bd sg n = true := by
  have go : ∀ z ∈ (["ab", "xy", "a", "abc"] : List Str), ∀ n ∈ List.range 6, Bd z n = true := by decide +kernel
  intro n hn
  refine go sg ?_ n (List.mem_range.mpr (by omega))
  rcases h with rfl | rfl | rfl | rfl <;> simp
structure BdP (sg : Str) (n : Nat) : Prop where
  a : (lays sg n).1.length ≤ 400
  b : (lays sg n).2.length ≤ 400
  c : ∀ t ∈ (lays sg n).1, t.length ≤ 5
  d : ∀ t ∈ (lays sg n).2, t.length ≤ 5
theorem bdp {sg : Str} (h : Signs sg) {n : Nat} (hn : n ≤ 5) : BdP sg n := by
  have q := bd_all h n hn
  simp only [Bd, Bool.and_eq_true, decide_eq_true_eq, List.all_eq_true] at q
  exact ⟨q.1.1.1, q.1.1.2, q.1.2, q.2⟩
theorem growL_take {sg : Str} {l : List Str} {i : Nat} {t : Str} (h : l[i]? = some t) : growL sg (l.take (i + 1)) = growL sg (l.take i) ++ (cds sg).map fun c => t ++ one c := by
  unfold growL
  rw [List.take_add_one, h, List.flatMap_append]
  simp
theorem growL_len (sg : Str) (l : List Str) : (growL sg l).length = l.length * (cds sg).length := by
  unfold growL
  induction l with
  | nil => simp
  | cons t l ih => rw [List.flatMap_cons, List.length_append, ih, List.length_map, List.length_cons, Nat.add_mul, Nat.one_mul, Nat.add_comm]
theorem sg_short {sg : Str} (h : Signs sg) : sg.length ≤ 3 := by
  rcases h with rfl | rfl | rfl | rfl <;> decide +kernel
theorem same_put {H H' : Hp} {D : Addr} {o : HO} (s : Same H H') (n : H D = none) : Same H (upd H' D o) := fun b u e => by
  rw [upd_ne (ne_of_none e n)]
  exact s b u e
abbrev txs (l : List Str) : List V := l.map V.str
abbrev nTexts : List Str := ["letters", "size", "found", "longest", "_", "text", "letter"]
section
variable {P : Program} {w : World} {K : PySem.W.Frag} {mg : Str → Option Value} {base : Heap}
def spTexts : Sp := fun vs H Q _ => ∃ (sg : Str) (n : Nat), vs = [.str sg, .int n] ∧ Signs sg ∧ n ≤ 5 ∧ ∀ p H', H p = none → Same H H' → H' p = some (.tup (txs (allT sg n))) → Q (.ref p) H'
theorem scTexts : FnScope nTexts ["letters", "size"] (defScope sTexts) := ⟨rfl, rfl, rfl, by decide +kernel, rfl, by decide +kernel, by decide +kernel⟩
theorem ok_texts {f : Addr} {fd : FuncData} (F : Fun K "all_texts" "all_texts" sTexts f fd) (T : Txt K mg) : FnOk P w K mg base CX0 1 f fd ["letters", "size"] spTexts := by
  refine F.ok scTexts (fun vs H Q E h => ?_) (fun cdv A outer s H vs Q E hr h => ?_)
  · obtain ⟨sg, n, rfl, _⟩ := h
    rfl
  · obtain ⟨sg, n, rfl, hsg, hn, q⟩ := h
    refine ⟨_, pss_cons (ps_set (i := 2) scTexts.nd rfl (Or.inl rfl) (pe_lst (pa_cons pe_str pa_nil)))
      (pss_cons (ps_set (i := 3) scTexts.nd rfl (Or.inl rfl) (pe_lst (pa_cons pe_str pa_nil)))
      (pss_cons (ps_for PassesOwn.never rfl (pi_range1 rfl T.range (pa_cons (pv 1) pa_nil)) (pg_name (i := 4) scTexts.nd rfl (Or.inl rfl))
        (pss_cons (ps_setLc2 (i := 3) (own := [("text", 5), ("letter", 6)]) (g := gName 5) (g1 := gName 6) (tt := tYes) (tt1 := tYes) (vs1 := [6]) rfl scTexts.nd rfl rfl (by rfl) (pi_list (pv 3))
            (blkOk_by (own := [("text", 5), ("letter", 6)]) (N := nTexts) (sc := defScope sTexts) (by decide +kernel)) (by decide) (fun _ _ _ _ _ => pg_name (i := 5) scTexts.nd rfl (Or.inl rfl)) (fun _ _ _ _ _ => pts_nil)
            (fun _ _ _ _ _ => pi_str (pv 0)) (fun _ _ _ _ _ => pg_name (i := 6) scTexts.nd rfl (Or.inl rfl)) (fun _ _ _ _ _ => pts_nil)
            (fun _ _ _ _ _ => pe_op op_add_str (pv 5) (pv 6)))
        (pss_one (ps_expr (pe_bm PySem.F.plainAttrs_list PySem.F.slot_list_extend PySem.F.type_list_extend mt_extend (pv 2) (pa_cons (pv 3) pa_nil))))))
      (pss_one (ps_ret (pe_callTy call_tuple_of (by rfl) T.tuple (by decide +kernel) (pa_cons (pv 2) pa_nil)))))), ?_⟩
    refine ⟨by show 1 ≤ sizeLine; decide, fun p np => ⟨by show 1 ≤ sizeLine; decide, fun p0 np0 => ?_⟩⟩
    have n01 : p ≠ p0 := ne_of_none upd_same np0
    refine ⟨_, rfl, n, rfl, by omega, by omega, for_range (n := n) (fun i σ H1 => ∃ (p1 : Addr) (t : Option V), σ = [some (.str sg), some (.int n), some (.ref p), some (.ref p1), t, none, none] ∧ Same H H1 ∧ p ≠ p1 ∧ H1 p = some (.lst (txs (lays sg i).1)) ∧ H1 p1 = some (.lst (txs (lays sg i).2)))
      ⟨p0, none, rfl, (same_upd np).trans (same_upd np0), n01, (by rw [upd_ne n01]; exact upd_same), upd_same⟩ ?_ ?_⟩
    · rintro i σ H1 hi ⟨p1, t, rfl, s1, n1, e1, e2⟩
      have B := bdp hsg (n := i) (by omega)
      have B' := bdp hsg (n := i + 1) (by omega)
      refine ⟨_, rfl, p1, rfl, ⟨_, SqL.of e2⟩, fun D hD => ?_⟩
      have nD1 : p1 ≠ D := ne_of_none e2 hD
      have nD : p ≠ D := ne_of_none e1 hD
      refine lc2_out (vs := [5, 6]) (vs1 := [6]) walk_list (fun j H2 => Same H1 H2 ∧ H2 D = some (.lst (txs (growL sg ((lays sg i).2.take j))))) ⟨same_upd hD, upd_same⟩ (fun j H2 _ z => SqL.of (z.1 _ _ e2)) ?_ ?_
      · rintro j x H2 H3 hj ⟨s2, e3⟩ ⟨rfl, hx⟩
        have hj' : j < (lays sg i).2.length := by rw [List.length_map] at hj; exact hj
        rw [List.getElem?_map] at hx
        obtain ⟨y, hy, rfl⟩ := Option.map_eq_some_iff.mp hx
        have hy5 : y.length ≤ 5 := B.d y (List.mem_of_getElem? hy)
        have hc3 : (cds sg).length ≤ 3 := by rw [cds_len]; exact sg_short hsg
        have glen : (growL sg ((lays sg i).2.take j)).length ≤ 1200 := by
          rw [growL_len, List.length_take]
          have := B.b
          exact Nat.le_trans (Nat.mul_le_mul (show min j (lays sg i).2.length ≤ 400 by omega) hc3) (by decide)
        refine ⟨rfl, iteT (B := Same H1 H3 ∧ H3 D = some (.lst (txs (growL sg ((lays sg i).2.take (j + 1)))))) ?_⟩
        refine ⟨_, rfl, sg, rfl, ?_⟩
        refine lc2_in walk_str (fun k H4 => Same H1 H4 ∧ H4 D = some (.lst (txs (growL sg ((lays sg i).2.take j) ++ ((cds sg).take k).map fun c => y ++ one c)))) ⟨s2, by rw [List.take_zero, List.map_nil, List.append_nil]; exact e3⟩ (fun _ _ _ _ => trivial) ?_ ?_
        · rintro k x H4 H5 hk ⟨s4, e4⟩ ⟨rfl, c, hc, rfl⟩
          refine ⟨rfl, iteT (B := Same H1 H5 ∧ H5 D = some (.lst (txs (growL sg ((lays sg i).2.take j) ++ ((cds sg).take (k + 1)).map fun c => y ++ one c)))) ?_⟩
          refine ⟨_, rfl, _, rfl, y, one c, rfl, rfl, ?_, ?_⟩
          · have : (one c).length = 1 := rfl
            rw [this]
            exact Nat.le_trans (show y.length + 1 ≤ 6 by omega) (by decide)
          · have hk' : (cds sg)[k]? = some c := by
              show sg.cps.toList[k]? = some c
              rw [Array.getElem?_toList]
              exact hc
            refine ⟨_, e4, ?_, same_put s4 hD, ?_⟩
            · rw [List.length_map, List.length_append, List.length_map, List.length_take]
              exact Nat.lt_of_lt_of_le (show _ < 1300 by omega) (by decide)
            · rw [upd_same, List.take_add_one, hk']
              simp
        · rintro H4 ⟨s4, e4⟩
          refine ⟨s4, ?_⟩
          rw [growL_take hy]
          have ez : (cds sg).take sg.cps.size = cds sg := List.take_of_length_le (by rw [cds_len]; exact Nat.le_refl _)
          rw [ez] at e4
          exact e4
      · rintro H2 ⟨s2, e3⟩
        have et : (lays sg i).2.take ((txs (lays sg i).2).length) = (lays sg i).2 := List.take_of_length_le (by rw [List.length_map]; exact Nat.le_refl _)
        rw [et] at e3
        refine ⟨_, rfl, .inl ⟨rfl, _, SqL.of (s2 _ _ e1)⟩, _, rfl, p, D, _, _, rfl, rfl, s2 _ _ e1, e3, ?_, ?_⟩
        · have := B'.a
          have e : (lays sg (i + 1)).1 = (lays sg i).1 ++ growL sg (lays sg i).2 := rfl
          rw [e, List.length_append] at this
          rw [List.length_map, List.length_map]
          exact Nat.le_trans this (by decide)
        · refine ⟨D, _, rfl, fun b o e => ?_, nD, ?_, ?_⟩
          · rw [upd_ne (ne_of_none e np)]
            exact s2 _ _ (s1 _ _ e)
          · rw [upd_same, ← List.map_append]
            rfl
          · rw [upd_ne nD.symm]
            exact e3
    · rintro σ H1 ⟨p1, t, rfl, s1, n1, e1, e2⟩
      refine ⟨_, rfl, p, _, rfl, .inl ⟨SqL.of e1, fun l hl => ?_⟩⟩
      refine q l _ ?_ (s1.trans (same_upd hl)) upd_same
      cases hh : H l with
      | none => rfl
      | some o =>
        have := s1 _ _ hh
        rw [hl] at this
        cases this
end
end K9
set_option Elab.async false
set_option linter.all false
set_option maxRecDepth 100000
set_option maxHeartbeats 3200000
namespace K9
open PySem L2 Tx Tg Tm
/-! ### a text so many times -/
theorem mul_len {z : Str} {n : Int} (h : 1 ≤ n) : (Txt.mul z n).length = z.length * n.toNat := by
  unfold Txt.mul
  rw [if_neg (by omega)]
  split
  · rename_i q
    rcases Bool.or_eq_true _ _ ▸ q with q | q
    · have : n = 1 := by simpa using q
      subst this
      show _ = z.length * 1
      rw [Nat.mul_one]
    · have : z.length = 0 := by simpa using q
      rw [this, Nat.zero_mul]
  · have all : ∀ (k : Nat) (acc : Array Nat), ((List.replicate k z.cps).foldl (· ++ ·) acc).size = acc.size + z.cps.size * k := by
      intro k
      induction k with
      | zero => intro acc; simp
      | succ k ih =>
        intro acc
        rw [List.replicate_succ, List.foldl_cons, ih, Array.size_append, Nat.mul_succ]
        omega
    have := all n.toNat #[]
    have e0 : (#[] : Array Nat).size = 0 := rfl
    rw [e0, Nat.zero_add] at this
    exact this
theorem mulT_ok {z : Str} {n : Int} (hz : z.length ≤ 100) (h1 : 1 ≤ n) (h2 : n ≤ 100) : MulOk z n := by
  refine ⟨?_, fun _ _ => ?_, fun _ _ => ?_⟩
  · rw [decide_eq_false (by omega), decide_eq_false (by omega)]
    rfl
  · have : (100 : Int) ≤ (2 ^ 63 - 1) / n := Int.le_ediv_of_mul_le (by omega) (by omega)
    omega
  · have e : PySem.Builtin.Str.tooLong (z.length * n.toNat) = decide (z.length * n.toNat > sizeLine) := rfl
    rw [e]
    refine decide_eq_false ?_
    have := Nat.mul_le_mul hz (show n.toNat ≤ 100 by omega)
    rw [sizeLine_eq]
    omega
section
variable {X : Cx}
theorem op_mulT : OpR X (binaryOp .Mult) (fun x y H Q => ∃ (z : Str) (n : Int), x = .str z ∧ y = .int n ∧ z.length ≤ 100 ∧ 1 ≤ n ∧ n ≤ 100 ∧ Q (.str (Txt.mul z n)) H) := by
  intro pins s σ H x y v u Q I rx ry h
  obtain ⟨z, n, rfl, rfl, hz, h1, h2, q⟩ := h
  obtain ⟨t, rfl⟩ := rx
  obtain ⟨t', rfl⟩ := ry
  exact SB.mul (mulT_ok hz h1 h2) fun t2 k => ⟨.str (Txt.mul z n), H, I.tok _, ⟨t2, rfl⟩, q⟩
end
/-! ### less than each of its ends -/
def endLess (z : Str) (i : Nat) : Bool := decide (z.cps.toList < (cutS z (some (1 + (i : Int))) none).cps.toList)
def leastB (z : Str) : Bool := ((List.range (z.length - 1)).map (endLess z)).all id
/-- p, p times q .. -/
def lpow (n q : Nat) : Nat → Str → List Str
  | 0, _ => []
  | k + 1, z => if z.length ≤ n then z :: lpow n q k (Txt.mul z q) else []
section
variable {P : Program} {w : World} {K : PySem.W.Frag} {mg : Str → Option Value} {base : Heap}
def spLeast : Sp := fun vs H Q _ => ∃ (z : Str), vs = [.str z] ∧ z.length ≤ 1000 ∧ ∀ H', Same H H' → Q (.bl (leastB z)) H'
theorem scLeast : FnScope ["pattern", "start"] ["pattern"] (defScope sLeast) := ⟨rfl, rfl, rfl, by decide +kernel, rfl, by decide +kernel, by decide +kernel⟩
theorem ok_least {f : Addr} {fd : FuncData} (F : Fun K "is_least_end" "is_least_end" sLeast f fd) (T : Txt K mg) : FnOk P w K mg base CX0 1 f fd ["pattern"] spLeast := by
  refine F.ok scLeast (fun vs H Q E h => ?_) (fun cdv A outer s H vs Q E hr h => ?_)
  · obtain ⟨z, rfl, _⟩ := h
    rfl
  · obtain ⟨z, rfl, hz, q⟩ := h
    refine ⟨_, pss_one (ps_ret (pe_callB (cr_all rfl) (by rfl) T.all (by decide +kernel) (pa_cons (pe_lc (own := [("start", 1)]) (g := gName 1) (tt := tYes) rfl scLeast.nd
      (pi_range2 rfl T.range (pa_cons pe_int (pa_cons (pe_callB call_len_str (by rfl) T.len PySem.boot_len (pa_cons (pv 0) pa_nil)) pa_nil)))
      (blkOk_by (own := [("start", 1)]) (N := ["pattern", "start"]) (sc := defScope sLeast) (by decide +kernel)) (fun _ _ _ _ _ => pg_name (i := 1) scLeast.nd rfl (Or.inl rfl)) (fun _ _ _ _ _ => pts_nil)
      (fun _ _ _ _ _ => pe_cmpR op_lt_str (pv 0) (pe_slice sl_str (pv 0) (po_some (pv 1)) po_none) (nomark _))) pa_nil))), ?_⟩
    have hl : z.length ≤ sizeLine := Nat.le_trans hz (by decide)
    refine ⟨_, rfl, z, rfl, hl, _, _, rfl, ⟨by omega, by omega, by omega, by omega⟩, fun D hD => ?_⟩
    have en : ((z.length : Int) - 1).toNat = z.length - 1 := by omega
    rw [en]
    refine lc_range (lo := 1) (n := z.length - 1) (fun i H1 => Same H H1 ∧ H1 D = some (.lst (((List.range i).map (endLess z)).map V.bl))) ⟨same_upd hD, upd_same⟩ ?_ ?_
    · rintro i H1 hi ⟨s1, e1⟩
      refine ⟨rfl, iteT (B := Same H H1 ∧ H1 D = some (.lst (((List.range (i + 1)).map (endLess z)).map V.bl))) ?_⟩
      refine ⟨_, rfl, _, rfl, _, rfl, _, rfl, z, rfl, hl, z, _, rfl, rfl, _, e1, ?_, same_put s1 hD, ?_⟩
      · rw [List.length_map, List.length_map, List.length_range]
        exact Nat.lt_of_lt_of_le (show i < 1000 by omega) (by decide)
      · rw [upd_same, List.range_succ, List.map_append, List.map_append]
        rfl
    · rintro H1 ⟨s1, e1⟩
      exact ⟨D, _, rfl, SqL.of e1, q _ s1⟩

def spLeadPow : Sp := fun vs H Q _ => ∃ (z : Str) (n q : Nat), vs = [.str z, .int n, .int q] ∧ 1 ≤ z.length ∧ z.length ≤ 5 ∧ n ≤ 5 ∧ 2 ≤ q ∧ q ≤ 7 ∧ ∀ p H', H p = none → Same H H' → H' p = some (.lst (txs (lpow n q 6 z))) → Q (.ref p) H'
theorem scLeadPow : FnScope ["pattern", "depth", "prime", "powers", "power"] ["pattern", "depth", "prime"] (defScope sLeadPow) := ⟨rfl, rfl, rfl, by decide +kernel, rfl, by decide +kernel, by decide +kernel⟩
theorem ok_leadpow {f : Addr} {fd : FuncData} (F : Fun K "leading_powers" "leading_powers" sLeadPow f fd) (T : Txt K mg) : FnOk P w K mg base CX0 1 f fd ["pattern", "depth", "prime"] spLeadPow := by
  refine F.ok scLeadPow (fun vs H Q E h => ?_) (fun cdv A outer s H vs Q E hr h => ?_)
  · obtain ⟨z, n, q, rfl, _⟩ := h
    rfl
  · obtain ⟨z, n, r, rfl, h1, h2, hn, r2, r7, q⟩ := h
    refine ⟨_, pss_cons (ps_set (i := 3) scLeadPow.nd rfl (Or.inl rfl) (pe_lst pa_nil))
      (pss_cons (ps_set (i := 4) scLeadPow.nd rfl (Or.inl rfl) (pv 0))
      (pss_cons (ps_while PassesOwn.never (pt_cmpR op_le (pe_callB call_len_str (by rfl) T.len PySem.boot_len (pa_cons (pv 4) pa_nil)) (pv 1) (nomark _))
        (pss_cons (ps_expr (pe_bm PySem.F.plainAttrs_list PySem.F.slot_list_append PySem.F.type_list_append mt_append (pv 3) (pa_cons (pv 4) pa_nil)))
        (pss_one (ps_set (i := 4) scLeadPow.nd rfl (Or.inl rfl) (pe_op op_mulT (pv 4) (pv 2))))))
      (pss_one (ps_ret (pv 3))))), ?_⟩
    refine ⟨by decide, fun p np => ⟨_, rfl, ?_⟩⟩
    refine ⟨fun m σ H1 => ∃ (y : Str) (done : List Str), σ = [some (.str z), some (.int n), some (.int r), some (.ref p), some (.str y)] ∧ Same H H1 ∧ H1 p = some (.lst (txs done)) ∧ done.length + m ≤ 6 ∧ y.length ≤ 50 ∧ 7 ≤ m + y.length ∧ done ++ lpow n r m y = lpow n r 6 z,
      ⟨6, z, [], rfl, same_upd np, upd_same, by simp, by omega, by omega, rfl⟩, ?_⟩
    rintro m σ H1 ⟨y, done, rfl, s1, e1, hd, hy, hm, ee⟩
    refine ⟨_, rfl, y, rfl, Nat.le_trans hy (by decide), _, rfl, _, _, rfl, rfl, _, rfl, ?_⟩
    refine ite2 (fun hc => ?_) (fun hc => ?_)
    · have hc' : y.length ≤ n := by
        have := of_decide_eq_true hc
        omega
      obtain ⟨k, rfl⟩ : ∃ k, m = k + 1 := ⟨m - 1, by omega⟩
      refine ⟨_, fun σ' H' z' => ⟨k, Nat.lt_succ_self k, z'⟩, ?_⟩
      refine ⟨_, rfl, .inl ⟨rfl, _, SqL.of e1⟩, _, rfl, p, _, _, rfl, rfl, e1, ?_, ?_⟩
      · rw [List.length_map]
        exact Nat.lt_of_lt_of_le (show done.length < 1000 by omega) (by decide)
      · refine ⟨_, rfl, _, rfl, y, r, rfl, rfl, by omega, by omega, by omega, ?_⟩
        have e3 : (Txt.mul y r).length = y.length * r := mul_len (by omega)
        have e4 : y.length * r ≤ 5 * 7 := Nat.mul_le_mul (by omega) r7
        have e5 : y.length * 2 ≤ y.length * r := Nat.mul_le_mul_left _ r2
        refine ⟨Txt.mul y r, done ++ [y], rfl, same_put s1 np, ?_, ?_, by omega, ?_, ?_⟩
        · rw [upd_same]
          show _ = some (HO.lst ((done ++ [y]).map V.str))
          rw [List.map_append]
          rfl
        · rw [List.length_append]
          show done.length + 1 + k ≤ 6
          omega
        · have : 1 ≤ y.length ∨ y.length = 0 := by omega
          omega
        · rw [← ee]
          show _ = done ++ (if y.length ≤ n then _ else _)
          rw [if_pos hc', List.append_assoc]
          rfl
    · have hc' : ¬ y.length ≤ n := fun c => hc (decide_eq_true (by omega))
      refine ⟨_, rfl, q p _ np s1 ?_⟩
      have : lpow n r m y = [] := by
        cases m with
        | zero => rfl
        | succ m => exact if_neg hc'
      rw [this, List.append_nil] at ee
      rw [← ee]
      exact e1
end
end K9
set_option Elab.async false
set_option linter.all false
set_option maxRecDepth 100000
set_option maxHeartbeats 3200000
namespace K9
open PySem L2 Tx Tg Tm
theorem small_int {n : Int} (h : n.natAbs ≤ 1000) : isInt (.int n) = true := by
  show decide (n.natAbs < 10 ^ 200) = true
  have : (1000 : Nat) < 10 ^ 200 := by decide +kernel
  generalize (10 ^ 200 : Nat) = M at this ⊢
  exact decide_eq_true (by omega)
theorem signs_letters {sg : Str} (h : Signs sg) : letters (.str sg) = true := by
  have go : ∀ z : Str, (decide (z.length ≤ 3) && only z alpha && decide (z ≠ Str.empty)) = true → (cds z).Pairwise (· < ·) → letters (.str z) = true := fun z h1 h2 => by
    show (decide (z.length ≤ 3) && only z alpha && decide (z ≠ Str.empty) && rise z) = true
    rw [h1, Bool.true_and]
    exact decide_eq_true (up_eq h2 (ups_up _) fun c => (ups_mem _ c).symm)
  rcases h with rfl | rfl | rfl | rfl <;> exact go _ (by decide +kernel) (by decide +kernel)
theorem signs_fine {sg : Str} (h : Signs sg) : Fine sg := by
  rcases h with rfl | rfl | rfl | rfl <;> exact ⟨by decide +kernel, by decide +kernel, by decide +kernel⟩
section
variable {P : Program} {w : World} {K : PySem.W.Frag} {mg : Str → Option Value} {base : Heap}
/-! ### the checks, where they let pass -/
def spPassL : Sp := fun vs H Q _ => ∃ (sg : Str), vs = [.str sg] ∧ Signs sg ∧ ∀ H', Same H H' → Q .non H'
theorem scCheck : FnScope ["value"] ["value"] (defScope sCheck) := ⟨rfl, rfl, rfl, by decide +kernel, rfl, by decide +kernel, by decide +kernel⟩
theorem ok_passL {f fH fL : Addr} {fd fdH fdL : FuncData} (F : Fun K "check_letters" "check_letters" sCheck f fd) (T : Txt K mg) (DH : Df K mg "has_only" sHas ["value", "signs", "most"] fH fdH)
    (DL : Df K mg "is_letters" sLetters ["value"] fL fdL) : FnOk P w K mg base CX0 3 f fd ["value"] spPassL := by
  have G := ok_letters (P := P) (w := w) (base := base) DL.F T DH
  refine F.ok scCheck (fun vs H Q E h => ?_) (fun cdv A outer s H vs Q E hr h => ?_)
  · obtain ⟨v, rfl, _⟩ := h
    rfl
  · obtain ⟨sg, rfl, hs, q⟩ := h
    refine ⟨_, pss_one (ps_if (pt_not (pt_val (pe_call G hr (by rfl) DL.m DL.F.kp DL.b .nil pass0 (pa_cons (pv 0) pa_nil)))) (pss_one ps_never) pss_nil), ?_⟩
    refine ⟨_, rfl, .str sg, .str sg, rfl, .str sg, signs_fine hs, fun H' s1 => ⟨_, rfl, ?_⟩⟩
    rw [signs_letters hs]
    exact iteF (q _ s1)
def spBetween : Sp := fun vs H Q _ => ∃ (v a b : Int), vs = [.int v, .int a, .int b] ∧ a ≤ v ∧ v ≤ b ∧ v.natAbs ≤ 1000 ∧ Q .non H
theorem scBetween : FnScope ["value", "least", "most"] ["value", "least", "most"] (defScope sBetween) := ⟨rfl, rfl, rfl, by decide +kernel, rfl, by decide +kernel, by decide +kernel⟩
theorem ok_between {f fI : Addr} {fd fdI : FuncData} (F : Fun K "check_between" "check_between" sBetween f fd) (T : Txt K mg) (DI : Df K mg "is_integer" sInt ["value"] fI fdI) : FnOk P w K mg base CX0 2 f fd ["value", "least", "most"] spBetween := by
  have G := ok_int (P := P) (w := w) (base := base) DI.F T
  refine F.ok scBetween (fun vs H Q E h => ?_) (fun cdv A outer s H vs Q E hr h => ?_)
  · obtain ⟨v, a, b, rfl, _⟩ := h
    rfl
  · obtain ⟨v, a, b, rfl, h1, h2, h3, q⟩ := h
    refine ⟨_, pss_one (ps_if (PW.pt (pw_or (pt_not (pt_val (pe_call G hr (by rfl) DI.m DI.F.kp DI.b .nil pass0 (pa_cons (pv 0) pa_nil))))
      (pw_or (pt_cmpR op_lt (pv 0) (pv 1) (nomark _)) (pw_or1 (pt_cmpR op_gt (pv 0) (pv 2) (nomark _)))))) (pss_one ps_never) pss_nil), ?_⟩
    refine ⟨_, rfl, .int v, .int v, rfl, .int v, ⟨_, rfl, ?_⟩⟩
    rw [small_int h3]
    refine iteF ⟨_, rfl, _, rfl, _, _, rfl, rfl, _, rfl, ?_⟩
    rw [decide_eq_false (show ¬ v < a by omega)]
    refine iteF ⟨_, rfl, _, rfl, _, _, rfl, rfl, _, rfl, ?_⟩
    have e : decide (v > b) = false := decide_eq_false (by omega)
    rw [e]
    exact iteF q
def spPassP : Sp := fun vs H Q _ => ((∃ r : Int, vs = [.int r] ∧ prime (.int r) = true) ∨ vs = [.non]) ∧ Q .non H
theorem scCheckPrime : FnScope ["value"] ["value"] (defScope sCheckPrime) := ⟨rfl, rfl, rfl, by decide +kernel, rfl, by decide +kernel, by decide +kernel⟩
def spPassP0 : Sp := fun vs H Q _ => ∃ r : Int, vs = [.int r] ∧ prime (.int r) = true ∧ Q .non H
theorem ok_passP0 {f fI fP : Addr} {fd fdI fdP : FuncData} (F : Fun K "check_prime" "check_prime" sCheckPrime f fd) (T : Txt K mg) (DI : Df K mg "is_integer" sInt ["value"] fI fdI) (DP : Df K mg "is_prime" sPrime ["value"] fP fdP) : FnOk P w K mg base CX0 3 f fd ["value"] spPassP0 := by
  have G := ok_prime (P := P) (w := w) (base := base) DP.F T DI.F DI.m DI.b
  refine F.ok scCheckPrime (fun vs H Q E h => ?_) (fun cdv A outer s H vs Q E hr h => ?_)
  · obtain ⟨r, rfl, _⟩ := h
    rfl
  · obtain ⟨r, rfl, hp, q⟩ := h
    refine ⟨_, pss_one (ps_if (pt_not (pt_val (pe_call G hr (by rfl) DP.m DP.F.kp DP.b .nil pass0 (pa_cons (pv 0) pa_nil)))) (pss_one ps_never) pss_nil), ?_⟩
    refine ⟨_, rfl, .int r, .int r, rfl, .int r, ⟨_, rfl, ?_⟩⟩
    rw [hp]
    exact iteF q
theorem scSomePrime : FnScope ["value"] ["value"] (defScope sSomePrime) := ⟨rfl, rfl, rfl, by decide +kernel, rfl, by decide +kernel, by decide +kernel⟩
theorem ok_passP {f fI fP fC : Addr} {fd fdI fdP fdC : FuncData} (F : Fun K "check_some_prime" "check_some_prime" sSomePrime f fd) (T : Txt K mg) (DI : Df K mg "is_integer" sInt ["value"] fI fdI) (DP : Df K mg "is_prime" sPrime ["value"] fP fdP)
    (DC : Df K mg "check_prime" sCheckPrime ["value"] fC fdC) : FnOk P w K mg base CX0 4 f fd ["value"] spPassP := by
  have G := ok_passP0 (P := P) (w := w) (base := base) DC.F T DI DP
  refine F.ok scSomePrime (fun vs H Q E h => ?_) (fun cdv A outer s H vs Q E hr h => ?_)
  · obtain ⟨h, _⟩ := h
    rcases h with ⟨r, rfl, _⟩ | rfl <;> rfl
  · obtain ⟨h, q⟩ := h
    refine ⟨_, pss_one (ps_if (pt_cmpR op_notN (pv 0) pe_non (nomark _)) (pss_one (ps_expr (pe_call G hr (by rfl) DC.m DC.F.kp DC.b .nil pass0 (pa_cons (pv 0) pa_nil)))) pss_nil), ?_⟩
    rcases h with ⟨r, rfl, hr⟩ | rfl
    · refine ⟨_, rfl, rfl, _, rfl, ?_⟩
      exact iteT ⟨_, rfl, r, rfl, hr, q⟩
    · refine ⟨_, rfl, rfl, _, rfl, ?_⟩
      exact iteF q

/-! ### numbers of leading patterns -/
def spPow : Sp := fun vs H Q _ => ∃ (b e : Nat), vs = [.int b, .int e] ∧ b ≤ 100 ∧ e ≤ 1000 ∧ Q (.int ((b : Int) ^ e)) H
theorem scPow : FnScope ["number", "exponent", "power", "_"] ["number", "exponent"] (defScope sPow) := ⟨rfl, rfl, rfl, by decide +kernel, rfl, by decide +kernel, by decide +kernel⟩
theorem ok_pow {f : Addr} {fd : FuncData} (F : Fun K "power_of" "power_of" sPow f fd) (T : Txt K mg) : FnOk P w K mg base CX0 1 f fd ["number", "exponent"] spPow := by
  refine F.ok scPow (fun vs H Q E h => ?_) (fun cdv A outer s H vs Q E hr h => ?_)
  · obtain ⟨b, e, rfl, _⟩ := h
    rfl
  · obtain ⟨b, e, rfl, hb, he, q⟩ := h
    refine ⟨_, pss_cons (ps_set (i := 2) scPow.nd rfl (Or.inl rfl) pe_int)
      (pss_cons (ps_for PassesOwn.never rfl (pi_range1 rfl T.range (pa_cons (pv 1) pa_nil)) (pg_name (i := 3) scPow.nd rfl (Or.inl rfl))
        (pss_one (ps_set (i := 2) scPow.nd rfl (Or.inl rfl) (pe_op op_mul (pv 2) (pv 0)))))
      (pss_one (ps_ret (pv 2)))), ?_⟩
    refine ⟨_, rfl, e, rfl, by omega, by omega, for_range (n := e) (fun i σ H1 => ∃ t : Option V, σ = [some (.int b), some (.int e), some (.int ((b : Int) ^ i)), t] ∧ H1 = H) ⟨none, rfl, rfl⟩ ?_ ?_⟩
    · rintro i σ H1 hi ⟨t, rfl, rfl⟩
      refine ⟨_, rfl, _, rfl, _, _, rfl, rfl, .inr ⟨by omega, by omega⟩, ⟨_, rfl, rfl⟩⟩
    · rintro σ H1 ⟨t, rfl, rfl⟩
      exact ⟨_, rfl, q⟩
def dgo : List Int → Int → Int → Int
  | [], s, _ => s
  | p :: ps, s, r => if r % (p * p) = 0 then 0 else if r % p = 0 then dgo ps (-s) (r / p) else dgo ps s r
def twos (n : Nat) : List Int := (List.range (n - 1)).map fun i => (2 : Int) + (i : Nat)
def dsign (n : Nat) : Int := dgo (twos n) 1 n
theorem dgo_le : ∀ (l : List Int) (s r : Int), s.natAbs ≤ 1 → (dgo l s r).natAbs ≤ 1
  | [], s, _, h => h
  | p :: ps, s, r, h => by
    unfold dgo
    split
    · decide
    · split
      · exact dgo_le ps _ _ (by omega)
      · exact dgo_le ps _ _ h
theorem twos_at {n i : Nat} (h : i < n - 1) : (twos n).drop i = ((2 : Int) + (i : Nat)) :: (twos n).drop (i + 1) := by
  unfold twos
  have hl : i < ((List.range (n - 1)).map fun i => (2 : Int) + (i : Nat)).length := by rw [List.length_map, List.length_range]; exact h
  rw [List.drop_eq_getElem_cons hl, List.getElem_map, List.getElem_range]
def spDivSign : Sp := fun vs H Q _ => ∃ (n : Nat), vs = [.int n] ∧ 1 ≤ n ∧ n ≤ 1000 ∧ Q (.int (dsign n)) H
theorem scDivSign : FnScope ["number", "sign", "rest", "prime"] ["number"] (defScope sDivSign) := ⟨rfl, rfl, rfl, by decide +kernel, rfl, by decide +kernel, by decide +kernel⟩
theorem ok_divsign {f : Addr} {fd : FuncData} (F : Fun K "divisor_sign" "divisor_sign" sDivSign f fd) (T : Txt K mg) : FnOk P w K mg base CX0 1 f fd ["number"] spDivSign := by
  refine F.ok scDivSign (fun vs H Q E h => ?_) (fun cdv A outer s H vs Q E hr h => ?_)
  · obtain ⟨n, rfl, _⟩ := h
    rfl
  · obtain ⟨n, rfl, h1, hn, q⟩ := h
    refine ⟨_, pss_cons (ps_set (i := 1) scDivSign.nd rfl (Or.inl rfl) pe_int)
      (pss_cons (ps_set (i := 2) scDivSign.nd rfl (Or.inl rfl) (pv 0))
      (pss_cons (ps_for PassesOwn.never rfl (pi_range2 rfl T.range (pa_cons pe_int (pa_cons (pe_op op_add (pv 0) pe_int) pa_nil))) (pg_name (i := 3) scDivSign.nd rfl (Or.inl rfl))
        (pss_cons (ps_if (pt_cmpR op_eq (pe_op op_mod (pv 2) (pe_op op_mul (pv 3) (pv 3))) pe_int (nomark _)) (pss_one (ps_ret pe_int)) pss_nil)
        (pss_one (ps_if (pt_cmpR op_eq (pe_op op_mod (pv 2) (pv 3)) pe_int (nomark _))
          (pss_cons (ps_set (i := 2) scDivSign.nd rfl (Or.inl rfl) (pe_op op_fdiv (pv 2) (pv 3))) (pss_one (ps_set (i := 1) scDivSign.nd rfl (Or.inl rfl) (pe_un un_neg (pv 1))))) pss_nil))))
      (pss_one (ps_ret (pv 1))))), ?_⟩
    refine ⟨_, rfl, _, rfl, _, _, rfl, rfl, _, _, rfl, ⟨by omega, by omega, by omega, by omega⟩, ?_⟩
    have en : ((n : Int) + 1 - 2).toNat = n - 1 := by omega
    rw [en]
    refine for_range (lo := 2) (n := n - 1) (fun i σ H1 => ∃ (s r : Int) (t : Option V), σ = [some (.int n), some (.int s), some (.int r), t] ∧ H1 = H ∧ dgo ((twos n).drop i) s r = dsign n) ⟨1, n, none, rfl, rfl, rfl⟩ ?_ ?_
    · rintro i σ H1 hi ⟨s, r, t, rfl, rfl, e⟩
      rw [twos_at hi] at e
      have hp : (0 : Int) < 2 + (i : Nat) := by omega
      have hp2 : (0 : Int) < (2 + (i : Nat)) * (2 + (i : Nat)) := Int.mul_pos hp hp
      unfold dgo at e
      refine ⟨_, rfl, _, rfl, _, rfl, _, _, rfl, rfl, .inl ⟨by omega, by omega⟩, _, _, rfl, rfl, hp2, rfl, _, rfl, ?_⟩
      rw [dec_int]
      refine ite2 (fun hc => ?_) (fun hc => ?_)
      · rw [if_pos (by simpa using hc)] at e
        rw [← e] at q
        exact q
      · rw [if_neg (by simpa using hc)] at e
        refine ⟨_, rfl, _, rfl, _, _, rfl, rfl, hp, rfl, _, rfl, ?_⟩
        rw [dec_int]
        refine ite2 (fun hc => ?_) (fun hc => ?_)
        · rw [if_pos (by simpa using hc)] at e
          refine ⟨_, rfl, _, rfl, _, _, rfl, rfl, ⟨hp, by omega⟩, _, rfl, _, rfl, ?_⟩
          exact ⟨_, _, _, rfl, rfl, e⟩
        · rw [if_neg (by simpa using hc)] at e
          exact ⟨_, _, _, rfl, rfl, e⟩
    · rintro σ H1 ⟨s, r, t, rfl, rfl, e⟩
      have ed : (twos n).drop (n - 1) = [] := List.drop_eq_nil_of_le (by unfold twos; rw [List.length_map, List.length_range]; exact Nat.le_refl _)
      rw [ed] at e
      have e' : s = dsign n := e
      rw [← e'] at q
      exact ⟨_, rfl, q⟩
end
end K9
set_option Elab.async false
set_option linter.all false
set_option maxRecDepth 100000
set_option maxHeartbeats 3200000
namespace K9
open PySem L2 Tx Tg Tm
/-! ### how many leading patterns -/
def divsTo (n i : Nat) : List Nat := ((List.range i).map (· + 1)).filter fun d => n % d == 0
def divs (n : Nat) : List Nat := divsTo n n
def hrow (k n d : Nat) : Int := dsign d * (k : Int) ^ (n / d)
def hm (k n : Nat) : Int := ((divs n).map (hrow k n)).sum / (n : Int)
abbrev nats (l : List Nat) : List V := l.map fun d => V.int (d : Nat)
theorem divsTo_succ (n i : Nat) : divsTo n (i + 1) = divsTo n i ++ if n % (i + 1) = 0 then [i + 1] else [] := by
  unfold divsTo
  rw [List.range_succ, List.map_append, List.filter_append]
  by_cases h : n % (i + 1) = 0
  · rw [if_pos h]
    simp [h]
  · rw [if_neg h]
    simp [h]
theorem divsTo_len (n i : Nat) : (divsTo n i).length ≤ i := by
  unfold divsTo
  refine Nat.le_trans (List.length_filter_le _ _) ?_
  rw [List.length_map, List.length_range]
  exact Nat.le_refl _
theorem divs_mem {n d : Nat} (h : d ∈ divs n) : 1 ≤ d ∧ d ≤ n := by
  unfold divs divsTo at h
  obtain ⟨h, _⟩ := List.mem_filter.mp h
  obtain ⟨i, hi, rfl⟩ := List.mem_map.mp h
  have := List.mem_range.mp hi
  omega
abbrev nMany : List Str := ["letters", "size", "number", "divisors", "rows"]
section
variable {P : Program} {w : World} {K : PySem.W.Frag} {mg : Str → Option Value} {base : Heap}
def spMany : Sp := fun vs H Q _ => ∃ (sg : Str) (n : Nat), vs = [.str sg, .int n] ∧ Signs sg ∧ 1 ≤ n ∧ n ≤ 60 ∧ ∀ H', Same H H' → Q (.int (hm sg.length n)) H'
theorem scMany : FnScope nMany ["letters", "size"] (defScope sMany) := ⟨rfl, rfl, rfl, by decide +kernel, rfl, by decide +kernel, by decide +kernel⟩
theorem ok_many {f fH fL fC fI fB fD fP : Addr} {fd fdH fdL fdC fdI fdB fdD fdP : FuncData} (F : Fun K "how_many" "how_many" sMany f fd) (T : Txt K mg) (DH : Df K mg "has_only" sHas ["value", "signs", "most"] fH fdH)
    (DL : Df K mg "is_letters" sLetters ["value"] fL fdL) (DC : Df K mg "check_letters" sCheck ["value"] fC fdC) (DI : Df K mg "is_integer" sInt ["value"] fI fdI) (DB : Df K mg "check_between" sBetween ["value", "least", "most"] fB fdB)
    (DD : Df K mg "divisor_sign" sDivSign ["number"] fD fdD) (DP : Df K mg "power_of" sPow ["number", "exponent"] fP fdP) : FnOk P w K mg base CX0 4 f fd ["letters", "size"] spMany := by
  have GC := ok_passL (P := P) (w := w) (base := base) DC.F T DH DL
  have GB := ok_between (P := P) (w := w) (base := base) DB.F T DI
  have GD := ok_divsign (P := P) (w := w) (base := base) DD.F T
  have GP := ok_pow (P := P) (w := w) (base := base) DP.F T
  refine F.ok scMany (fun vs H Q E h => ?_) (fun cdv A outer s H vs Q E hr h => ?_)
  · obtain ⟨sg, n, rfl, _⟩ := h
    rfl
  · obtain ⟨sg, n, rfl, hsg, h1, hn, q⟩ := h
    have r1 : Room 1 _ := hr.mono (by decide)
    have r2 : Room 2 _ := hr.mono (by decide)
    obtain ⟨t4, g4⟩ := T.mPat
    refine ⟨_, pss_cons (ps_expr (pe_call GC hr (by rfl) DC.m DC.F.kp DC.b .nil pass0 (pa_cons (pv 0) pa_nil)))
      (pss_cons (ps_expr (pe_call GB r2 (by rfl) DB.m DB.F.kp DB.b .nil pass0 (pa_cons (pv 1) (pa_cons pe_int (pa_cons (pe_glob (v := .int 400) (by rfl) g4 ⟨_, rfl⟩) pa_nil)))))
      (pss_cons (ps_setLc (i := 3) (own := [("number", 2)]) (g := gName 2) rfl scMany.nd rfl rfl (by rfl) (pi_range2 rfl T.range (pa_cons pe_int (pa_cons (pe_op op_add (pv 1) pe_int) pa_nil)))
          (blkOk_by (own := [("number", 2)]) (N := nMany) (sc := defScope sMany) (by decide +kernel)) (fun _ _ _ _ _ => pg_name (i := 2) scMany.nd rfl (Or.inl rfl))
          (fun _ _ _ _ _ => pts_one (pt_cmpR op_eq (pe_op op_mod (pv 1) (pv 2)) pe_int (nomark _))) (fun _ _ _ _ _ => pv 2))
      (pss_cons (ps_setLc (i := 4) (own := [("number", 2)]) (g := gName 2) (tt := tYes) rfl scMany.nd rfl rfl (by rfl) (pi_list (pv 3))
          (blkOk_by (own := [("number", 2)]) (N := nMany) (sc := defScope sMany) (by decide +kernel)) (fun _ _ _ _ _ => pg_name (i := 2) scMany.nd rfl (Or.inl rfl)) (fun _ _ _ _ _ => pts_nil)
          (fun _ _ _ _ _ => pe_op op_mul (pe_call GD r1 (by rfl) DD.m DD.F.kp DD.b .nil pass0 (pa_cons (pv 2) pa_nil)) (pe_call GP r1 (by rfl) DP.m DP.F.kp DP.b .nil pass0
            (pa_cons (pe_callB call_len_str (by rfl) T.len PySem.boot_len (pa_cons (pv 0) pa_nil)) (pa_cons (pe_op op_fdiv (pv 1) (pv 2)) pa_nil)))))
      (pss_one (ps_ret (pe_op op_fdiv (pe_callB (cr_sum rfl) (by rfl) T.sum (by decide +kernel) (pa_cons (pv 4) pa_nil)) (pv 1))))))), ?_⟩
    refine ⟨_, rfl, sg, rfl, hsg, fun H0 s0 => ?_⟩
    refine ⟨_, rfl, _, _, _, rfl, by omega, by omega, by omega, ?_⟩
    refine ⟨_, rfl, _, _, rfl, rfl, _, _, rfl, ⟨by omega, by omega, by omega, by omega⟩, fun D hD => ?_⟩
    have en : ((n : Int) + 1 - 1).toNat = n := by omega
    rw [en]
    have el : ∀ i : Nat, (1 : Int) + (i : Nat) = ((i + 1 : Nat) : Int) := fun i => by omega
    refine lc_range (lo := 1) (n := n) (fun i H1 => Same H0 H1 ∧ H1 D = some (.lst (nats (divsTo n i)))) ⟨same_upd hD, upd_same⟩ ?_ ?_
    · rintro i H1 hi ⟨s1, e1⟩
      rw [el i]
      refine ⟨rfl, _, rfl, _, rfl, _, _, rfl, rfl, by omega, rfl, _, rfl, ?_⟩
      rw [dec_int, divsTo_succ]
      have em : (n : Int) % ((i + 1 : Nat) : Int) = ((n % (i + 1) : Nat) : Int) := rfl
      rw [em]
      refine ite2 (fun hc => ?_) (fun hc => ?_)
      · have hc' : n % (i + 1) = 0 := by
          have := beq_iff_eq.mp hc
          omega
        rw [if_pos hc']
        refine ⟨_, rfl, _, e1, ?_, same_put s1 hD, ?_⟩
        · rw [List.length_map]
          exact Nat.lt_of_le_of_lt (Nat.le_trans (divsTo_len n i) (show i ≤ 60 by omega)) (by decide)
        · rw [upd_same]
          show _ = some (HO.lst ((divsTo n i ++ [i + 1]).map fun d => V.int (d : Nat)))
          rw [List.map_append]
          rfl
      · have hc' : ¬ n % (i + 1) = 0 := fun z => hc (beq_iff_eq.mpr (by omega))
        rw [if_neg hc', List.append_nil]
        exact ⟨s1, e1⟩
    · rintro H1 ⟨s1, e1⟩
      refine ⟨_, rfl, D, rfl, ⟨_, SqL.of e1⟩, fun D2 hD2 => ?_⟩
      have nDD : D ≠ D2 := ne_of_none e1 hD2
      refine lc_list (xs := nats (divs n)) (fun i H2 => Same H1 H2 ∧ H2 D2 = some (.lst ((((divs n).take i).map (hrow sg.length n)).map V.int))) ⟨same_upd hD2, upd_same⟩ (fun i H2 _ z => SqL.of (z.1 _ _ e1)) ?_ ?_
      · rintro i x H2 hx ⟨s2, e2⟩
        rw [List.getElem?_map] at hx
        obtain ⟨d, hd, rfl⟩ := Option.map_eq_some_iff.mp hx
        obtain ⟨d1, d2⟩ := divs_mem (List.mem_of_getElem? hd)
        refine ⟨rfl, iteT (B := Same H1 H2 ∧ H2 D2 = some (.lst ((((divs n).take (i + 1)).map (hrow sg.length n)).map V.int))) ?_⟩
        refine ⟨_, rfl, d, rfl, d1, by omega, ?_⟩
        have hs3 := sg_short hsg
        refine ⟨_, rfl, sg, rfl, Nat.le_trans hs3 (by decide), _, rfl, _, rfl, _, _, rfl, rfl, ⟨by omega, by omega⟩, ?_⟩
        have hq : n / d ≤ n := Nat.div_le_self n d
        refine ⟨sg.length, n / d, rfl, by omega, by omega, ?_⟩
        have dl := dgo_le (twos d) 1 d (by decide)
        have dl' : (dsign d).natAbs ≤ 1 := dl
        refine ⟨_, _, rfl, rfl, .inl ⟨by omega, by omega⟩, ?_⟩
        refine ⟨_, e2, ?_, same_put s2 hD2, ?_⟩
        · rw [List.length_map, List.length_map, List.length_take]
          have := divsTo_len n n
          exact Nat.lt_of_le_of_lt (show _ ≤ 1000 by unfold divs; omega) (by decide)
        · rw [upd_same, List.take_add_one, hd, List.map_append, List.map_append]
          rfl
      · rintro H2 ⟨s2, e2⟩
        have et : (divs n).take (nats (divs n)).length = divs n := List.take_of_length_le (by rw [List.length_map]; exact Nat.le_refl _)
        rw [et] at e2
        refine ⟨_, rfl, D2, _, rfl, SqL.of e2, _, rfl, _, _, rfl, rfl, ⟨by omega, by omega⟩, ?_⟩
        exact q _ ((s0.trans s1).trans s2)
end
end K9
set_option Elab.async false
set_option linter.all false
set_option maxRecDepth 100000
set_option maxHeartbeats 3200000
namespace K9
open PySem L2 Tx Tg Tm
/-! ### free patterns -/
def leadsP (sg : Str) (n : Nat) : List Str := ((allT sg n).drop 1).filter leastB
def powsP (n r : Nat) (l : List Str) : List Str := l.flatMap (lpow n r 6)
def freeP (sg : Str) (n : Nat) : Option Nat → List Str
  | none => leadsP sg n
  | some r => (powsP n r (leadsP sg n)).mergeSort leK
def kv : Option Nat → V
  | none => .non
  | some r => .int r
def KindOk : Option Nat → Prop
  | none => True
  | some r => r = 2 ∨ r = 3 ∨ r = 5 ∨ r = 7
theorem kind_prime {r : Nat} (h : KindOk (some r)) : prime (.int r) = true := by
  have h' : (r : Int) = 2 ∨ (r : Int) = 3 ∨ (r : Int) = 5 ∨ (r : Int) = 7 := by
    rcases h with rfl | rfl | rfl | rfl <;> simp
  exact decide_eq_true h'
theorem pts_val {X : Cx} {e : Expr} {t : TE} (h : PE X e t) (he : ∀ whole, isTrue e X.env whole = (do let v ← whole; standAt e.pos; holding [v] (truthy v))) : PTs X [e] (tB t) := pts_one (pt_val h he)
theorem lpow_mem {n r : Nat} : ∀ (k : Nat) (z y : Str), y ∈ lpow n r k z → y.length ≤ n
  | 0, _, _, h => by cases h
  | k + 1, z, y, h => by
    unfold lpow at h
    split at h
    · rename_i hz
      rcases List.mem_cons.mp h with rfl | h
      · exact hz
      · exact lpow_mem k _ _ h
    · cases h
theorem lpow_len {n r : Nat} : ∀ (k : Nat) (z : Str), (lpow n r k z).length ≤ k
  | 0, _ => Nat.le_refl 0
  | k + 1, z => by
    unfold lpow
    split
    · rw [List.length_cons]
      exact Nat.succ_le_succ (lpow_len k _)
    · exact Nat.zero_le _
theorem powsP_len {n r : Nat} : ∀ l : List Str, (powsP n r l).length ≤ l.length * 6
  | [] => Nat.le_refl 0
  | z :: l => by
    show (lpow n r 6 z ++ powsP n r l).length ≤ _
    rw [List.length_append, List.length_cons]
    have := lpow_len (n := n) (r := r) 6 z
    have := powsP_len (n := n) (r := r) l
    omega
theorem powsP_take {n r i : Nat} {l : List Str} {t : Str} (h : l[i]? = some t) : powsP n r (l.take (i + 1)) = powsP n r (l.take i) ++ lpow n r 6 t := by
  unfold powsP
  rw [List.take_add_one, h, List.flatMap_append]
  simp
theorem lays_pos (sg : Str) : ∀ n, 0 < (lays sg n).1.length
  | 0 => Nat.one_pos
  | n + 1 => by
    show 0 < ((lays sg n).1 ++ growL sg (lays sg n).2).length
    rw [List.length_append]
    have := lays_pos sg n
    omega
theorem lead_mem {sg : Str} (h : Signs sg) {n : Nat} (hn : n ≤ 5) {z : Str} (hz : z ∈ leadsP sg n) : z.length ≤ 5 := by
  unfold leadsP at hz
  exact (bdp h hn).c z (List.mem_of_mem_drop (List.mem_filter.mp hz).1)
theorem lead_len {sg : Str} (h : Signs sg) {n : Nat} (hn : n ≤ 5) : (leadsP sg n).length ≤ 400 := by
  unfold leadsP
  refine Nat.le_trans (List.length_filter_le _ _) ?_
  rw [List.length_drop]
  have := (bdp h hn).a
  show (lays sg n).1.length - 1 ≤ 400
  omega
theorem cut_one (xs : List V) (h : 0 < xs.length) : cutV xs (some 1) none = xs.drop 1 := by
  unfold cutV
  have e : HT.sIx xs.length 0 (some 1) = 1 := (HT.sIx_nat xs.length 0 1).trans (by omega)
  rw [e, HT.sIx_none]
  refine List.take_of_length_le ?_
  rw [List.length_drop]
  exact Nat.le_refl _
theorem drop_map (l : List Str) : (txs l).drop 1 = txs (l.drop 1) := by
  show (l.map V.str).drop 1 = (l.drop 1).map V.str
  rw [List.map_drop]
/-- one that has letters -/
theorem lead_pos {sg : Str} (h : Signs sg) {n : Nat} (hn : n ≤ 5) : ∀ z ∈ (allT sg n).drop 1, 1 ≤ z.length := by
  have go : ∀ z ∈ (["ab", "xy", "a", "abc"] : List Str), ∀ n ∈ List.range 6, ((allT z n).drop 1).all (fun t => decide (1 ≤ t.length)) = true := by decide +kernel
  intro z hz
  have q := go sg (by rcases h with rfl | rfl | rfl | rfl <;> simp) n (List.mem_range.mpr (by omega))
  exact of_decide_eq_true (List.all_eq_true.mp q z hz)
abbrev nFree : List Str := ["letters", "depth", "prime", "pattern", "leading", "power", "powers"]
section
variable {P : Program} {w : World} {K : PySem.W.Frag} {mg : Str → Option Value} {base : Heap}
theorem free_none {H H' : Hp} {p : Addr} (s : Same H H') (n : H' p = none) : H p = none := by
  cases hh : H p with
  | none => rfl
  | some o =>
    have := s _ _ hh
    rw [n] at this
    cases this
def spFree : Sp := fun vs H Q _ => ∃ (sg : Str) (n : Nat) (k : Option Nat), vs = [.str sg, .int n, kv k] ∧ Signs sg ∧ 1 ≤ n ∧ n ≤ 5 ∧ KindOk k ∧ ∀ p H', H p = none → Same H H' → H' p = some (.tup (txs (freeP sg n k))) → Q (.ref p) H'
theorem scFree : FnScope nFree ["letters", "depth", "prime"] (defScope sFree) := ⟨rfl, rfl, rfl, by decide +kernel, rfl, by decide +kernel, by decide +kernel⟩
theorem ok_free {f fH fL fC fI fB fP fCP fSP fT fE fLP fO : Addr} {fd fdH fdL fdC fdI fdB fdP fdCP fdSP fdT fdE fdLP fdO : FuncData} (F : Fun K "free_patterns" "free_patterns" sFree f fd) (T : Txt K mg) (DH : Df K mg "has_only" sHas ["value", "signs", "most"] fH fdH)
    (DL : Df K mg "is_letters" sLetters ["value"] fL fdL) (DC : Df K mg "check_letters" sCheck ["value"] fC fdC) (DI : Df K mg "is_integer" sInt ["value"] fI fdI) (DB : Df K mg "check_between" sBetween ["value", "least", "most"] fB fdB)
    (DP : Df K mg "is_prime" sPrime ["value"] fP fdP) (DCP : Df K mg "check_prime" sCheckPrime ["value"] fCP fdCP) (DSP : Df K mg "check_some_prime" sSomePrime ["value"] fSP fdSP) (DT : Df K mg "all_texts" sTexts ["letters", "size"] fT fdT)
    (DE : Df K mg "is_least_end" sLeast ["pattern"] fE fdE) (DLP : Df K mg "leading_powers" sLeadPow ["pattern", "depth", "prime"] fLP fdLP) (DO : Df K mg "text_order" sOrder ["text"] fO fdO) : FnOk P w K mg base CX0 5 f fd ["letters", "depth", "prime"] spFree := by
  have GC := ok_passL (P := P) (w := w) (base := base) DC.F T DH DL
  have GB := ok_between (P := P) (w := w) (base := base) DB.F T DI
  have GS := ok_passP (P := P) (w := w) (base := base) DSP.F T DI DP DCP
  have GT := ok_texts (P := P) (w := w) (base := base) DT.F T
  have GE := ok_least (P := P) (w := w) (base := base) DE.F T
  have GL := ok_leadpow (P := P) (w := w) (base := base) DLP.F T
  refine F.ok scFree (fun vs H Q E h => ?_) (fun cdv A outer s H vs Q E hr h => ?_)
  · obtain ⟨sg, n, k, rfl, _⟩ := h
    rfl
  · obtain ⟨sg, n, k, rfl, hsg, h1, hn, hk, q⟩ := h
    have r1 : Room 1 _ := hr.mono (by decide)
    have r2 : Room 2 _ := hr.mono (by decide)
    have r3 : Room 3 _ := hr.mono (by decide)
    obtain ⟨t4, g4⟩ := T.mDep
    refine ⟨_, pss_cons (ps_expr (pe_call GC r3 (by rfl) DC.m DC.F.kp DC.b .nil pass0 (pa_cons (pv 0) pa_nil)))
      (pss_cons (ps_expr (pe_call GB r2 (by rfl) DB.m DB.F.kp DB.b .nil pass0 (pa_cons (pv 1) (pa_cons pe_int (pa_cons (pe_glob (v := .int 5) (by rfl) g4 ⟨_, rfl⟩) pa_nil)))))
      (pss_cons (ps_expr (pe_call GS hr (by rfl) DSP.m DSP.F.kp DSP.b .nil pass0 (pa_cons (pv 2) pa_nil)))
      (pss_cons (ps_setLc (i := 4) (own := [("pattern", 3)]) (g := gName 3) (tt := tB (tCall spLeast [] E0 (tCons (tVar 3) tNil))) rfl scFree.nd rfl rfl (by rfl) (pi_tup (pe_slice sl_tup (pe_call GT r1 (by rfl) DT.m DT.F.kp DT.b .nil pass0 (pa_cons (pv 0) (pa_cons (pv 1) pa_nil))) (po_some pe_int) po_none))
          (blkOk_by (own := [("pattern", 3)]) (N := nFree) (sc := defScope sFree) (by decide +kernel)) (fun _ _ _ _ _ => pg_name (i := 3) scFree.nd rfl (Or.inl rfl))
          (fun _ _ _ _ _ => by exact pts_val (pe_call GE r1 (by rfl) DE.m DE.F.kp DE.b .nil pass0 (pa_cons (pv 3) pa_nil)) (fun _ => rfl)) (fun _ _ _ _ _ => pv 3))
      (pss_cons (ps_if (pt_cmpR op_isN (pv 2) pe_non (nomark _)) (pss_one (ps_ret (pe_callTy call_tuple_of (by rfl) T.tuple (by decide +kernel) (pa_cons (pv 4) pa_nil)))) pss_nil)
      (pss_cons (ps_setLc2 (i := 6) (own := [("pattern", 3), ("power", 5)]) (g := gName 3) (g1 := gName 5) (tt := tYes) (tt1 := tYes) (vs1 := [5]) (wi1 := iList K (tCall spLeadPow [] E0 (tCons (tVar 3) (tCons (tVar 1) (tCons (tVar 2) tNil))))) rfl scFree.nd rfl rfl (by rfl) (pi_list (pv 4))
            (blkOk_by (own := [("pattern", 3), ("power", 5)]) (N := nFree) (sc := defScope sFree) (by decide +kernel)) (by decide) (fun _ _ _ _ _ => pg_name (i := 3) scFree.nd rfl (Or.inl rfl)) (fun _ _ _ _ _ => pts_nil)
            (fun _ _ _ _ _ => pi_list (pe_call GL r1 (by rfl) DLP.m DLP.F.kp DLP.b .nil pass0 (pa_cons (pv 3) (pa_cons (pv 1) (pa_cons (pv 2) pa_nil))))) (fun _ _ _ _ _ => pg_name (i := 5) scFree.nd rfl (Or.inl rfl)) (fun _ _ _ _ _ => pts_nil)
            (fun _ _ _ _ _ => pv 5))
      (pss_one (ps_ret (pe_callTy call_tuple_of (by rfl) T.tuple (by decide +kernel) (pa_cons (pe_callBK (cr_sortedBy DO.F T.len DO.b r3) (by rfl) T.sorted (by decide +kernel) (pa_cons (pv 6) pa_nil)
          (pk_cons (pe_glob (v := .ref fO) (by rfl) DO.m rfl) pk_nil)) pa_nil))))))))), ?_⟩
    refine ⟨_, rfl, sg, rfl, hsg, fun H0 s0 => ?_⟩
    refine ⟨_, rfl, _, _, _, rfl, by omega, by omega, by omega, ?_⟩
    refine ⟨_, rfl, ?_, ?_⟩
    · cases k with
      | none => exact .inr rfl
      | some r => exact .inl ⟨r, rfl, kind_prime hk⟩
    refine ⟨_, rfl, _, rfl, sg, n, rfl, hsg, hn, fun pT H1 nT s1 eT => ?_⟩
    have hpos : 0 < (txs (allT sg n)).length := by rw [List.length_map]; exact lays_pos sg n
    refine ⟨1, rfl, pT, _, rfl, SqT.of eT, fun z => ?_, fun pC nC => ?_⟩
    · have e : HT.sIx (txs (allT sg n)).length 0 (some 1) = 1 := (HT.sIx_nat _ 0 1).trans (by omega)
      have := z.1
      rw [e] at this
      omega
    rw [cut_one _ hpos, drop_map]
    refine ⟨pC, rfl, ⟨_, SqT.of upd_same⟩, fun D hD => ?_⟩
    have nCD : pC ≠ D := ne_of_none upd_same hD
    have hlen4 : ((allT sg n).drop 1).length ≤ 400 := by
      rw [List.length_drop]
      have := (bdp hsg hn).a
      show (lays sg n).1.length - 1 ≤ 400
      omega
    have s2 : Same H1 (upd H1 pC (.tup (txs ((allT sg n).drop 1)))) := same_upd nC
    have eC : (upd H1 pC (.tup (txs ((allT sg n).drop 1)))) pC = some (.tup (txs ((allT sg n).drop 1))) := upd_same
    generalize upd H1 pC (.tup (txs ((allT sg n).drop 1))) = Hc at s2 eC hD ⊢
    have hT5 : ∀ z ∈ (allT sg n).drop 1, z.length ≤ 5 := fun z hz => (bdp hsg hn).c z (List.mem_of_mem_drop hz)
    have hT1 := lead_pos hsg hn
    have eL : leadsP sg n = ((allT sg n).drop 1).filter leastB := rfl
    generalize (allT sg n).drop 1 = L at eC hlen4 hT5 hT1 eL
    refine lc_tup (xs := txs L) (fun i H2 => Same Hc H2 ∧ H2 D = some (.lst (txs ((L.take i).filter leastB)))) ⟨same_upd hD, upd_same⟩ (fun i H2 _ z => SqT.of (z.1 _ _ eC)) ?_ ?_
    · rintro i x H2 hx ⟨s3, e3⟩
      rw [List.getElem?_map] at hx
      obtain ⟨y, hy, rfl⟩ := Option.map_eq_some_iff.mp hx
      have hyL := List.mem_of_getElem? hy
      refine ⟨rfl, _, rfl, y, rfl, Nat.le_trans (hT5 y hyL) (by decide), fun H3 s4 => ⟨_, rfl, ?_⟩⟩
      have e4 := s4 _ _ e3
      rw [List.take_add_one, hy, List.filter_append]
      refine ite2 (fun hc => ?_) (fun hc => ?_)
      · refine ⟨_, rfl, _, e4, ?_, same_put (s3.trans s4) hD, ?_⟩
        · rw [List.length_map]
          refine Nat.lt_of_le_of_lt (Nat.le_trans (List.length_filter_le _ _) (show _ ≤ 400 from ?_)) (by decide)
          rw [List.length_take]
          omega
        · have ef : (Option.toList (some y)).filter leastB = [y] := by simp [hc]
          rw [upd_same, ef]
          show _ = some (HO.lst ((_ ++ [y]).map V.str))
          rw [List.map_append]
          rfl
      · have ef : (Option.toList (some y)).filter leastB = [] := by simp [hc]
        rw [ef, List.append_nil]
        exact ⟨s3.trans s4, e4⟩
    · rintro H2 ⟨s3, e3⟩
      have et : L.take (txs L).length = L := List.take_of_length_le (by rw [List.length_map]; exact Nat.le_refl _)
      rw [et, ← eL] at e3
      have sH : Same H H2 := ((s0.trans s1).trans s2).trans s3
      refine ⟨_, rfl, rfl, _, rfl, ?_⟩
      cases k with
      | none =>
        refine iteT ⟨_, rfl, D, _, rfl, .inl ⟨SqL.of e3, fun l hl => ?_⟩⟩
        exact q l _ (free_none sH hl) (sH.trans (same_upd hl)) upd_same
      | some r =>
        have hdn : decide (kv (some r) = V.non) = false := rfl
        rw [hdn]
        refine iteF ?_
        refine ⟨_, rfl, D, rfl, ⟨_, SqL.of e3⟩, fun D2 hD2 => ?_⟩
        have nD2 : D ≠ D2 := ne_of_none e3 hD2
        have hlead := lead_len hsg hn
        have r27 : 2 ≤ r ∧ r ≤ 7 := by rcases hk with rfl | rfl | rfl | rfl <;> omega
        refine lc2_out (vs := [3, 5]) (vs1 := [5]) walk_list (fun j H3 => Same H2 H3 ∧ H3 D2 = some (.lst (txs (powsP n r ((leadsP sg n).take j))))) ⟨same_upd hD2, upd_same⟩ (fun j H3 _ z => SqL.of (z.1 _ _ e3)) ?_ ?_
        · rintro j x H3 H4 hj ⟨s4, e4⟩ ⟨rfl, hx⟩
          rw [List.getElem?_map] at hx
          obtain ⟨y, hy, rfl⟩ := Option.map_eq_some_iff.mp hx
          have hyL : y ∈ L := by
            have := List.mem_of_getElem? hy
            rw [eL] at this
            exact (List.mem_filter.mp this).1
          have hj' : j < (leadsP sg n).length := by rw [List.length_map] at hj; exact hj
          have plen : (powsP n r ((leadsP sg n).take j)).length ≤ 2400 := by
            refine Nat.le_trans (powsP_len _) ?_
            rw [List.length_take]
            omega
          refine ⟨rfl, iteT (B := Same H2 H4 ∧ H4 D2 = some (.lst (txs (powsP n r ((leadsP sg n).take (j + 1)))))) ?_⟩
          refine ⟨_, rfl, _, rfl, _, rfl, y, n, r, rfl, hT1 y hyL, hT5 y hyL, hn, r27.1, r27.2, fun pp H5 npp s5 e5 => ?_⟩
          refine ⟨pp, rfl, ⟨_, SqL.of e5⟩, ?_⟩
          have e4' := s5 _ _ e4
          have npD : pp ≠ D2 := (ne_of_none e4 npp).symm
          refine lc2_in walk_list (fun m H6 => Same H2 H6 ∧ H6 pp = some (.lst (txs (lpow n r 6 y))) ∧ H6 D2 = some (.lst (txs (powsP n r ((leadsP sg n).take j) ++ (lpow n r 6 y).take m)))) ⟨s4.trans s5, e5, by rw [List.take_zero, List.append_nil]; exact e4'⟩ (fun m H6 _ z => SqL.of z.2.1) ?_ ?_
          · rintro m x H6 H7 hm ⟨s6, e6, e7⟩ ⟨rfl, hx⟩
            rw [List.getElem?_map] at hx
            obtain ⟨u, hu, rfl⟩ := Option.map_eq_some_iff.mp hx
            refine ⟨rfl, iteT (B := Same H2 H7 ∧ H7 pp = some (.lst (txs (lpow n r 6 y))) ∧ H7 D2 = some (.lst (txs (powsP n r ((leadsP sg n).take j) ++ (lpow n r 6 y).take (m + 1))))) ?_⟩
            refine ⟨_, rfl, _, e7, ?_, same_put s6 hD2, (by rw [upd_ne npD]; exact e6), ?_⟩
            · rw [List.length_map, List.length_append, List.length_take]
              have := lpow_len (n := n) (r := r) 6 y
              exact Nat.lt_of_lt_of_le (show _ < 3000 by omega) (by decide)
            · rw [upd_same, List.take_add_one, hu, ← List.append_assoc]
              show _ = some (HO.lst ((_ ++ [u]).map V.str))
              rw [List.map_append]
              rfl
          · rintro H6 ⟨s6, _, e7⟩
            refine ⟨s6, ?_⟩
            have em : (lpow n r 6 y).take (txs (lpow n r 6 y)).length = lpow n r 6 y := List.take_of_length_le (by rw [List.length_map]; exact Nat.le_refl _)
            rw [em] at e7
            rw [powsP_take hy]
            exact e7
        · rintro H3 ⟨s4, e4⟩
          have em : (leadsP sg n).take (txs (leadsP sg n)).length = leadsP sg n := List.take_of_length_le (by rw [List.length_map]; exact Nat.le_refl _)
          rw [em] at e4
          refine ⟨_, rfl, D2, powsP n r (leadsP sg n), rfl, rfl, SqL.of e4, ?_, fun z hz => ?_, fun ps nps => ?_⟩
          · have := powsP_len (n := n) (r := r) (leadsP sg n)
            omega
          · obtain ⟨y, _, hz⟩ := List.mem_flatMap.mp hz
            exact Nat.le_trans (Nat.le_trans (lpow_mem 6 y z hz) hn) (by decide)
          · refine ⟨ps, _, rfl, .inl ⟨SqL.of upd_same, fun l hl => ?_⟩⟩
            have s6 := (sH.trans s4).trans (same_upd (o := .lst (txs ((powsP n r (leadsP sg n)).mergeSort leK))) nps)
            exact q l _ (free_none s6 hl) (s6.trans (same_upd hl)) upd_same
end
end K9
set_option Elab.async false
set_option linter.all false
set_option maxRecDepth 100000
set_option maxHeartbeats 3200000
namespace K9
open PySem L2 Tx Tg Tm
/-! ### the law's own lists -/
def lineL (sg : Str) : Nat → List Str
  | 0 => []
  | n + 1 => lineL sg n ++ growL sg (lays sg n).2
theorem lays_line (sg : Str) : ∀ n, (lays sg n).1 = ("" : Str) :: lineL sg n
  | 0 => rfl
  | n + 1 => by
    show (lays sg n).1 ++ growL sg (lays sg n).2 = ("" : Str) :: (lineL sg n ++ growL sg (lays sg n).2)
    rw [lays_line sg n]
    rfl
theorem line_drop (sg : Str) (n : Nat) : (allT sg n).drop 1 = lineL sg n := by
  show (lays sg n).1.drop 1 = _
  rw [lays_line]
  rfl
theorem line_len {sg : Str} (h : Signs sg) {n : Nat} (hn : n ≤ 5) : (lineL sg n).length ≤ 400 := by
  have := (bdp h hn).a
  rw [lays_line, List.length_cons] at this
  omega
theorem line_pos {sg : Str} (h : Signs sg) {n : Nat} (hn : n ≤ 5) {z : Str} (hz : z ∈ lineL sg n) : 1 ≤ z.length := lead_pos h hn z (by rw [line_drop]; exact hz)
theorem line_five {sg : Str} (h : Signs sg) {n : Nat} (hn : n ≤ 5) {z : Str} (hz : z ∈ lineL sg n) : z.length ≤ 5 := (bdp h hn).c z (by rw [lays_line]; exact List.mem_cons_of_mem _ hz)
def laterL (z : Str) (i : Nat) : List Int := ((List.range i).filter fun i => !endLess z i).map fun i => (1 : Int) + (i : Nat)
def lawLead (z : Str) : Bool := decide (z ≠ "") && leastB z
theorem later_nil (z : Str) : decide (laterL z (z.length - 1) = []) = leastB z := by
  unfold laterL leastB
  rw [Bool.eq_iff_iff, decide_eq_true_eq, List.map_eq_nil_iff, List.filter_eq_nil_iff, List.all_eq_true]
  simp
theorem laterL_succ (z : Str) (i : Nat) : laterL z (i + 1) = laterL z i ++ if endLess z i = true then [] else [(1 : Int) + (i : Nat)] := by
  unfold laterL
  rw [List.range_succ, List.filter_append, List.map_append]
  cases h : endLess z i <;> simp [h]
theorem laterL_len (z : Str) (i : Nat) : (laterL z i).length ≤ i := by
  unfold laterL
  rw [List.length_map]
  refine Nat.le_trans (List.length_filter_le _ _) ?_
  rw [List.length_range]
  exact Nat.le_refl _
theorem lead_line {z : Str} (h : 1 ≤ z.length) : lawLead z = leastB z := by
  unfold lawLead
  have : z ≠ "" := fun e => by
    rw [e] at h
    revert h
    decide +kernel
  rw [decide_eq_true this, Bool.true_and]
theorem leads_line {sg : Str} (h : Signs sg) {n : Nat} (hn : n ≤ 5) : (lineL sg n).filter lawLead = leadsP sg n := by
  unfold leadsP
  rw [line_drop]
  exact List.filter_congr fun z hz => lead_line (line_pos h hn hz)
theorem all_ints (K : PySem.W.Frag) (H : Hp) : ∀ l : List Int, DpAll K H (l.map V.int) (l.map PyData.int)
  | [] => .nil
  | c :: l => .cons (.int _) (all_ints K H l)
theorem eqv_nil : ∀ l : List Int, PyData.eqv (.list (l.map PyData.int)) (.list []) = decide (l = [])
  | [] => rfl
  | c :: l => rfl
theorem lay_flat : ∀ ds : List PyData, (∀ d ∈ ds, d.canLay0 = true) → PyData.canLayAll0 ds = true
  | [], _ => rfl
  | d :: ds, h => by
    show (d.canLay0 && PyData.canLayAll0 ds) = true
    rw [h d List.mem_cons_self, lay_flat ds fun e he => h e (List.mem_cons_of_mem _ he)]
    rfl
theorem deep_flat : ∀ ds : List PyData, (∀ d ∈ ds, d.depth ≤ 1) → PyData.depthAll ds ≤ 1
  | [], _ => Nat.zero_le _
  | d :: ds, h => by
    show max d.depth (PyData.depthAll ds) ≤ 1
    exact Nat.max_le.mpr ⟨h d List.mem_cons_self, deep_flat ds fun e he => h e (List.mem_cons_of_mem _ he)⟩
theorem shaped_list {ds : List PyData} (h : ∀ d ∈ ds, d.canLay0 = true ∧ d.depth ≤ 1) : SeqAt.shaped (.list ds) = true := by
  unfold SeqAt.shaped
  rw [Bool.and_eq_true]
  refine ⟨lay_flat ds fun d hd => (h d hd).1, decide_eq_true ?_⟩
  show PyData.depthAll ds + 1 ≤ 64
  have := deep_flat ds fun d hd => (h d hd).2
  omega
theorem shaped_tup {ds : List PyData} (h : ∀ d ∈ ds, d.canLay0 = true ∧ d.depth ≤ 1) : SeqAt.shaped (.tuple ds) = true := by
  unfold SeqAt.shaped
  rw [Bool.and_eq_true]
  refine ⟨lay_flat ds fun d hd => (h d hd).1, decide_eq_true ?_⟩
  show PyData.depthAll ds + 1 ≤ 64
  have := deep_flat ds fun d hd => (h d hd).2
  omega
theorem shaped_ints (l : List Int) : SeqAt.shaped (.list (l.map PyData.int)) = true := shaped_list fun d hd => by
  obtain ⟨i, _, rfl⟩ := List.mem_map.mp hd
  exact ⟨rfl, Nat.zero_le _⟩
abbrev nLines : List Str := ["_law_signs_here", "_law_deep", "_law_found", "_law_layer", "_law_turn", "_law_longer", "_law_line", "_law_sign"]
section
variable {P : Program} {w : World} {K : PySem.W.Frag} {mg : Str → Option Value} {base : Heap}
def spKind : Sp := fun vs H Q _ => ∃ (c : Addr), vs = [.ref c] ∧ Cup H c ∧ ∀ k H', KindOk k → Cup H' c → But c H H' → Q (kv k) H'
theorem scKind : FnScope ["_law_cup_here"] ["_law_cup_here"] (defScope sKind) := ⟨rfl, rfl, rfl, by decide +kernel, rfl, by decide +kernel, by decide +kernel⟩
theorem ok_kind {f fB fP : Addr} {fd fdB fdP : FuncData} (F : Fun K "_law_kind" "_law_kind" sKind f fd) (T : Txt K mg) (DB : Df K mg "_law_bit" sBit ["_law_cup_here", "_law_much"] fB fdB)
    (DP : Df K mg "_law_pick" sPick ["_law_cup_here", "_law_items"] fP fdP) : FnOk P w K mg base CX0 3 f fd ["_law_cup_here"] spKind := by
  have G := ok_pick (P := P) (w := w) (base := base) DP.F T DB
  refine F.ok scKind (fun vs H Q E h => ?_) (fun cdv A outer s H vs Q E hr h => ?_)
  · obtain ⟨c, rfl, _⟩ := h
    rfl
  · obtain ⟨c, rfl, hc, q⟩ := h
    refine ⟨_, pss_one (ps_ret (pe_call G hr (by rfl) DP.m DP.F.kp DP.b .nil pass0 (pa_cons (pv 0) (pa_cons (pe_lst (pa_cons pe_non (pa_cons pe_non (pa_cons pe_int (pa_cons pe_int (pa_cons pe_int (pa_cons pe_int (pa_cons pe_int pa_nil)))))))) pa_nil)))), ?_⟩
    refine ⟨_, rfl, by show 7 ≤ sizeLine; decide, fun p np => ⟨c, hc.same (same_upd np), .inl ⟨p, _, rfl, hc.ne np, upd_same, by decide, by decide, fun x H' hx hc' but => ?_⟩⟩⟩
    have b2 : But c H H' := (But.of (same_upd np)).trans but
    simp only [List.mem_cons, List.not_mem_nil, or_false] at hx
    rcases hx with rfl | rfl | rfl | rfl | rfl | rfl | rfl
    · exact q none _ trivial hc' b2
    · exact q none _ trivial hc' b2
    · exact q (some 2) _ (.inl rfl) hc' b2
    · exact q (some 2) _ (.inl rfl) hc' b2
    · exact q (some 3) _ (.inr (.inl rfl)) hc' b2
    · exact q (some 5) _ (.inr (.inr (.inl rfl))) hc' b2
    · exact q (some 7) _ (.inr (.inr (.inr rfl))) hc' b2

def spLeads : Sp := fun vs H Q _ => ∃ (z : Str), vs = [.str z] ∧ z.length ≤ 1000 ∧ ∀ H', Same H H' → Q (.bl (lawLead z)) H'
theorem scLeads : FnScope ["_law_line", "_law_at", "_law_later"] ["_law_line"] (defScope sLeads) := ⟨rfl, rfl, rfl, by decide +kernel, rfl, by decide +kernel, by decide +kernel⟩
theorem ok_leads {f : Addr} {fd : FuncData} (F : Fun K "_law_leads" "_law_leads" sLeads f fd) (T : Txt K mg) : FnOk P w K mg base CX0 1 f fd ["_law_line"] spLeads := by
  refine F.ok scLeads (fun vs H Q E h => ?_) (fun cdv A outer s H vs Q E hr h => ?_)
  · obtain ⟨z, rfl, _⟩ := h
    rfl
  · obtain ⟨z, rfl, hz, q⟩ := h
    refine ⟨_, pss_cons (ps_setLc (i := 2) (own := [("_law_at", 1)]) (g := gName 1) rfl scLeads.nd rfl rfl (by rfl)
        (pi_range2 rfl T.range (pa_cons pe_int (pa_cons (pe_callB call_len_str (by rfl) T.len PySem.boot_len (pa_cons (pv 0) pa_nil)) pa_nil)))
        (blkOk_by (own := [("_law_at", 1)]) (N := ["_law_line", "_law_at", "_law_later"]) (sc := defScope sLeads) (by decide +kernel)) (fun _ _ _ _ _ => pg_name (i := 1) scLeads.nd rfl (Or.inl rfl))
        (fun _ _ _ _ _ => pts_one (pt_not (pt_cmpR op_lt_str (pv 0) (pe_slice sl_str (pv 0) (po_some (pv 1)) po_none) (nomark _)))) (fun _ _ _ _ _ => pv 1))
      (pss_one (ps_ret (pe_and (pe_cmpR op_ne (pv 0) pe_str (nomark _)) (pe_one (pe_cmpR (op_eqD hr.units) (pv 2) (pe_lst pa_nil) (nomark _)))))), ?_⟩
    have hl : z.length ≤ sizeLine := Nat.le_trans hz (by decide)
    refine ⟨_, rfl, z, rfl, hl, _, _, rfl, ⟨by omega, by omega, by omega, by omega⟩, fun D hD => ?_⟩
    have en : ((z.length : Int) - 1).toNat = z.length - 1 := by omega
    rw [en]
    refine lc_range (lo := 1) (n := z.length - 1) (fun i H1 => Same H H1 ∧ H1 D = some (.lst ((laterL z i).map V.int))) ⟨same_upd hD, upd_same⟩ ?_ ?_
    · rintro i H1 hi ⟨s1, e1⟩
      refine ⟨rfl, _, rfl, _, rfl, _, rfl, _, rfl, z, rfl, hl, z, _, rfl, rfl, _, rfl, ?_⟩
      have ee : decide (z.cps.toList < (cutS z (some (1 + (i : Int))) none).cps.toList) = endLess z i := rfl
      rw [ee, laterL_succ]
      cases hb : endLess z i with
      | true =>
        refine iteF ?_
        rw [if_pos rfl, List.append_nil]
        exact ⟨s1, e1⟩
      | false =>
        refine iteT ⟨_, rfl, _, e1, ?_, same_put s1 hD, ?_⟩
        · rw [List.length_map]
          exact Nat.lt_of_le_of_lt (Nat.le_trans (laterL_len z i) (show i ≤ 1000 by omega)) (by decide)
        · rw [upd_same, if_neg Bool.false_ne_true, List.map_append]
          rfl
    · rintro H1 ⟨s1, e1⟩
      have q1 := later_nil z
      refine ⟨_, rfl, rfl, _, rfl, ?_⟩
      unfold lawLead at q
      by_cases hz0 : z = ""
      · have e0 : (!decide (V.str z = V.str "")) = false := by
          rw [decide_eq_true (congrArg V.str hz0)]
          rfl
        rw [decide_eq_false (fun h => h hz0 : ¬ z ≠ ""), Bool.false_and] at q
        rw [e0]
        exact iteF (q _ s1)
      · have e0 : (!decide (V.str z = V.str "")) = true := by
          rw [decide_eq_false (fun h => hz0 (by injection h))]
          rfl
        rw [decide_eq_true (show z ≠ "" from hz0), Bool.true_and] at q
        rw [e0]
        refine iteT ⟨_, rfl, by decide, fun p np => ?_⟩
        refine ⟨.list ((laterL z (z.length - 1)).map PyData.int), .list [], .lst (SqL.of ((same_upd np) _ _ e1)) (all_ints _ _ _), .lst (SqL.of upd_same) .nil, shaped_ints _, by decide +kernel, ?_⟩
        rw [eqv_nil, q1]
        exact q _ (s1.trans (same_upd np))
end
end K9
set_option Elab.async false
set_option linter.all false
set_option maxRecDepth 100000
set_option maxHeartbeats 3200000
namespace K9
open PySem L2 Tx Tg Tm
section
variable {P : Program} {w : World} {K : PySem.W.Frag} {mg : Str → Option Value} {base : Heap}
def spLines : Sp := fun vs H Q _ => ∃ (sg : Str) (n : Nat), vs = [.str sg, .int n] ∧ Signs sg ∧ n ≤ 5 ∧ ∀ p H', H p = none → Same H H' → H' p = some (.lst (txs (lineL sg n))) → Q (.ref p) H'
theorem scLines : FnScope nLines ["_law_signs_here", "_law_deep"] (defScope sLines) := ⟨rfl, rfl, rfl, by decide +kernel, rfl, by decide +kernel, by decide +kernel⟩
theorem ok_lines {f : Addr} {fd : FuncData} (F : Fun K "_law_lines_to" "_law_lines_to" sLines f fd) (T : Txt K mg) : FnOk P w K mg base CX0 1 f fd ["_law_signs_here", "_law_deep"] spLines := by
  refine F.ok scLines (fun vs H Q E h => ?_) (fun cdv A outer s H vs Q E hr h => ?_)
  · obtain ⟨sg, n, rfl, _⟩ := h
    rfl
  · obtain ⟨sg, n, rfl, hsg, hn, q⟩ := h
    refine ⟨_, pss_cons (ps_par (i := 2) (j := 3) (by rfl) scLines.nd rfl rfl (by decide) rfl rfl (pa_cons (pe_lst pa_nil) (pa_cons (pe_lst (pa_cons pe_str pa_nil)) pa_nil)) (by rfl))
      (pss_cons (ps_for PassesOwn.never rfl (pi_range1 rfl T.range (pa_cons (pv 1) pa_nil)) (pg_name (i := 4) scLines.nd rfl (Or.inl rfl))
        (pss_cons (ps_set (i := 5) scLines.nd rfl (Or.inl rfl) (pe_lst pa_nil))
        (pss_cons (ps_for PassesOwn.never rfl (pi_list (pv 3)) (pg_name (i := 6) scLines.nd rfl (Or.inr rfl))
          (pss_one (ps_set (i := 5) scLines.nd rfl (Or.inl rfl) (pe_op op_cat (pv 5) (pe_lc (own := [("_law_sign", 7)]) (g := gName 7) (tt := tYes) rfl scLines.nd (pi_str (pv 0))
            (blkOk_by (own := [("_law_sign", 7)]) (N := nLines) (sc := defScope sLines) (by decide +kernel)) (fun _ _ _ _ _ => pg_name (i := 7) scLines.nd rfl (Or.inl rfl)) (fun _ _ _ _ _ => pts_nil)
            (fun _ _ _ _ _ => pe_op op_add_str (pv 6) (pv 7)))))))
        (pss_one (ps_par (i := 2) (j := 3) (by rfl) scLines.nd rfl rfl (by decide) rfl rfl (pa_cons (pe_op op_cat (pv 2) (pv 5)) (pa_cons (pv 5) pa_nil)) (by rfl))))))
      (pss_one (ps_ret (pv 2)))), ?_⟩
    refine ⟨by decide, fun p np => ?_⟩
    refine ⟨by show 1 ≤ sizeLine; decide, fun p0 np0 => ?_⟩
    have n01 : p ≠ p0 := ne_of_none upd_same np0
    refine ⟨_, _, rfl, _, rfl, n, rfl, by omega, by omega, for_range (n := n) (fun i σ H1 => ∃ (pf pl : Addr) (t4 t5 t6 : Option V), σ = [some (.str sg), some (.int n), some (.ref pf), some (.ref pl), t4, t5, t6, none] ∧ Same H H1 ∧ H pf = none ∧
        H1 pf = some (.lst (txs (lineL sg i))) ∧ H1 pl = some (.lst (txs (lays sg i).2)))
      ⟨p, p0, none, none, none, rfl, (same_upd np).trans (same_upd np0), np, (by rw [upd_ne n01]; exact upd_same), upd_same⟩ ?_ ?_⟩
    · rintro i σ H1 hi ⟨pf, pl, t4, t5, t6, rfl, s1, npf, e1, e2⟩
      have B := bdp hsg (n := i) (by omega)
      have B' := bdp hsg (n := i + 1) (by omega)
      have LL := line_len hsg (n := i + 1) (by omega)
      refine ⟨by decide, fun pg npg => ?_⟩
      have s2 : Same H1 (upd H1 pg (.lst [])) := same_upd npg
      refine ⟨_, rfl, pl, rfl, ⟨_, SqL.of (s2 _ _ e2)⟩, ?_⟩
      refine for_list (xs := txs (lays sg i).2) (fun j σ H2 => ∃ (q : Addr) (t6 : Option V), σ = [some (.str sg), some (.int n), some (.ref pf), some (.ref pl), some (.int (0 + (i : Nat))), some (.ref q), t6, none] ∧ Same H1 H2 ∧
        H1 q = none ∧ H2 q = some (.lst (txs (growL sg ((lays sg i).2.take j))))) ⟨pg, t6, rfl, s2, npg, upd_same⟩ (fun j σ H2 _ z => by obtain ⟨_, _, _, s3, _⟩ := z; exact SqL.of (s3 _ _ e2)) ?_ ?_
      · rintro j x σ H2 hx ⟨g0, t6, rfl, s3, ng0, e3⟩
        rw [List.getElem?_map] at hx
        obtain ⟨y, hy, rfl⟩ := Option.map_eq_some_iff.mp hx
        have hy5 : y.length ≤ 5 := B.d y (List.mem_of_getElem? hy)
        have hjl : j < (lays sg i).2.length := (List.getElem?_eq_some_iff.mp hy).1
        have hc3 : (cds sg).length ≤ 3 := by rw [cds_len]; exact sg_short hsg
        have glen : (growL sg ((lays sg i).2.take j)).length ≤ 1200 := by
          rw [growL_len, List.length_take]
          have := B.b
          exact Nat.le_trans (Nat.mul_le_mul (show min j (lays sg i).2.length ≤ 400 by omega) hc3) (by decide)
        refine ⟨_, rfl, _, rfl, sg, rfl, fun D hD => ?_⟩
        refine lc_it walk_str (fun k H3 => Same H2 H3 ∧ H3 D = some (.lst (txs (((cds sg).take k).map fun c => y ++ one c)))) ⟨same_upd hD, upd_same⟩ (fun _ _ _ _ => trivial) ?_ ?_
        · rintro k x H3 H4 hk ⟨s4, e4⟩ ⟨rfl, c, hc, rfl⟩
          refine ⟨rfl, iteT (B := Same H2 H4 ∧ H4 D = some (.lst (txs (((cds sg).take (k + 1)).map fun c => y ++ one c)))) ?_⟩
          refine ⟨_, rfl, _, rfl, y, one c, rfl, rfl, ?_, ?_⟩
          · have : (one c).length = 1 := rfl
            rw [this]
            exact Nat.le_trans (show y.length + 1 ≤ 6 by omega) (by decide)
          · have hk' : (cds sg)[k]? = some c := by
              show sg.cps.toList[k]? = some c
              rw [Array.getElem?_toList]
              exact hc
            refine ⟨_, e4, ?_, same_put s4 hD, ?_⟩
            · rw [List.length_map, List.length_map, List.length_take]
              exact Nat.lt_of_lt_of_le (show _ < 1000 by omega) (by decide)
            · rw [upd_same, List.take_add_one, hk', List.map_append]
              show _ = some (HO.lst ((_ ++ [y ++ one c]).map V.str))
              rw [List.map_append]
              rfl
        · rintro H3 ⟨s4, e4⟩
          have ez : (cds sg).take sg.cps.size = cds sg := List.take_of_length_le (by rw [cds_len]; exact Nat.le_refl _)
          rw [ez] at e4
          refine ⟨g0, D, _, _, rfl, rfl, s4 _ _ e3, e4, ?_, fun p3 n3 => ?_⟩
          · rw [List.length_map, List.length_map, List.length_map]
            exact Nat.le_trans (show _ ≤ 2000 by omega) (by decide)
          · refine ⟨p3, _, rfl, (s3.trans s4).trans (same_upd n3), free_none (s3.trans s4) n3, ?_⟩
            rw [upd_same, growL_take hy]
            show _ = some (HO.lst (List.map V.str (_ ++ _)))
            rw [List.map_append]
      · rintro σ H2 ⟨g0, t6, rfl, s3, ng0, e3⟩
        have et : (lays sg i).2.take ((txs (lays sg i).2).length) = (lays sg i).2 := List.take_of_length_le (by rw [List.length_map]; exact Nat.le_refl _)
        rw [et] at e3
        refine ⟨_, rfl, _, rfl, pf, g0, _, _, rfl, rfl, s3 _ _ e1, e3, ?_, fun p3 n3 => ?_⟩
        · rw [List.length_map, List.length_map]
          have e : lineL sg (i + 1) = lineL sg i ++ growL sg (lays sg i).2 := rfl
          rw [e, List.length_append] at LL
          exact Nat.le_trans LL (by decide)
        · refine ⟨_, rfl, _, _, rfl, p3, g0, _, _, _, rfl, (s1.trans s3).trans (same_upd n3), free_none (s1.trans s3) n3, ?_, ?_⟩
          · rw [upd_same]
            show _ = some (HO.lst ((lineL sg i ++ growL sg (lays sg i).2).map V.str))
            rw [List.map_append]
          · exact (same_upd n3) _ _ e3
    · rintro σ H1 ⟨pf, pl, t4, t5, t6, rfl, s1, npf, e1, e2⟩
      exact ⟨_, rfl, q pf _ npf s1 e1⟩
def spLeaders : Sp := fun vs H Q _ => ∃ (sg : Str) (n : Nat), vs = [.str sg, .int n] ∧ Signs sg ∧ n ≤ 5 ∧ ∀ p H', H p = none → Same H H' → H' p = some (.lst (txs (leadsP sg n))) → Q (.ref p) H'
theorem scLeaders : FnScope ["_law_signs_here", "_law_deep", "_law_line"] ["_law_signs_here", "_law_deep"] (defScope sLeaders) := ⟨rfl, rfl, rfl, by decide +kernel, rfl, by decide +kernel, by decide +kernel⟩
theorem ok_leaders {f fLi fLe : Addr} {fd fdLi fdLe : FuncData} (F : Fun K "_law_leaders" "_law_leaders" sLeaders f fd) (T : Txt K mg) (DLi : Df K mg "_law_lines_to" sLines ["_law_signs_here", "_law_deep"] fLi fdLi) (DLe : Df K mg "_law_leads" sLeads ["_law_line"] fLe fdLe) :
    FnOk P w K mg base CX0 2 f fd ["_law_signs_here", "_law_deep"] spLeaders := by
  have GLi := ok_lines (P := P) (w := w) (base := base) DLi.F T
  have GLe := ok_leads (P := P) (w := w) (base := base) DLe.F T
  refine F.ok scLeaders (fun vs H Q E h => ?_) (fun cdv A outer s H vs Q E hr h => ?_)
  · obtain ⟨sg, n, rfl, _⟩ := h
    rfl
  · obtain ⟨sg, n, rfl, hsg, hn, q⟩ := h
    refine ⟨_, pss_one (ps_ret (pe_lc (own := [("_law_line", 2)]) (g := gName 2) rfl scLeaders.nd (pi_list (pe_call GLi hr (by rfl) DLi.m DLi.F.kp DLi.b .nil pass0 (pa_cons (pv 0) (pa_cons (pv 1) pa_nil))))
        (blkOk_by (own := [("_law_line", 2)]) (N := ["_law_signs_here", "_law_deep", "_law_line"]) (sc := defScope sLeaders) (by decide +kernel)) (fun _ _ _ _ _ => pg_name (i := 2) scLeaders.nd rfl (Or.inl rfl))
        (fun _ _ _ _ _ => pts_one (pt_val (pe_call GLe hr (by rfl) DLe.m DLe.F.kp DLe.b .nil pass0 (pa_cons (pv 2) pa_nil)))) (fun _ _ _ _ _ => pv 2))), ?_⟩
    refine ⟨_, rfl, _, rfl, sg, n, rfl, hsg, hn, fun pL H1 nL s1 eL => ?_⟩
    refine ⟨pL, rfl, ⟨_, SqL.of eL⟩, fun D hD => ?_⟩
    have h5 : ∀ z ∈ lineL sg n, z.length ≤ 5 := fun z hz => line_five hsg hn hz
    have hl := line_len hsg hn
    have ef := leads_line hsg hn
    generalize lineL sg n = L at eL h5 hl ef
    refine lc_list (xs := txs L) (fun i H2 => Same H1 H2 ∧ H2 D = some (.lst (txs ((L.take i).filter lawLead)))) ⟨same_upd hD, upd_same⟩ (fun i H2 _ z => SqL.of (z.1 _ _ eL)) ?_ ?_
    · rintro i x H2 hx ⟨s3, e3⟩
      rw [List.getElem?_map] at hx
      obtain ⟨y, hy, rfl⟩ := Option.map_eq_some_iff.mp hx
      refine ⟨rfl, _, rfl, y, rfl, Nat.le_trans (h5 y (List.mem_of_getElem? hy)) (by decide), fun H3 s4 => ⟨_, rfl, ?_⟩⟩
      have e4 := s4 _ _ e3
      rw [List.take_add_one, hy, List.filter_append]
      refine ite2 (fun hc => ?_) (fun hc => ?_)
      · refine ⟨_, rfl, _, e4, ?_, same_put (s3.trans s4) hD, ?_⟩
        · rw [List.length_map]
          refine Nat.lt_of_le_of_lt (Nat.le_trans (List.length_filter_le _ _) (show _ ≤ 400 from ?_)) (by decide)
          rw [List.length_take]
          omega
        · have eg : (Option.toList (some y)).filter lawLead = [y] := by simp [hc]
          rw [upd_same, eg]
          show _ = some (HO.lst ((_ ++ [y]).map V.str))
          rw [List.map_append]
          rfl
      · have eg : (Option.toList (some y)).filter lawLead = [] := by simp [hc]
        rw [eg, List.append_nil]
        exact ⟨s3.trans s4, e4⟩
    · rintro H2 ⟨s3, e3⟩
      have et : L.take (txs L).length = L := List.take_of_length_le (by rw [List.length_map]; exact Nat.le_refl _)
      rw [et, ef] at e3
      exact q D _ (free_none s1 hD) (s1.trans s3) e3
end
end K9
set_option Elab.async false
set_option linter.all false
set_option maxRecDepth 100000
set_option maxHeartbeats 3200000
namespace K9
open PySem PySem.Spec PyProof.Rows L2 Tx Tg Tm
/-! ### sorted rows of (int, text) -/
def pairD (p : Int × Str) : PyData := .tuple [.int p.1, .str p.2]
abbrev leP : Int × Str → Int × Str → Bool := PySem.W.dataLe false pairD
def PairAt (H : Hp) (y : V) (p : Int × Str) : Prop := ∃ t, y = .ref t ∧ H t = some (.tup [.int p.1, .str p.2])
abbrev PairsAt (H : Hp) (ys : List V) (l : List (Int × Str)) : Prop := PySem.W.EachIs (PairAt H) ys l
theorem PairsAt.same {H H' : Hp} (s : Same H H') {ys : List V} {l : List (Int × Str)} (h : PairsAt H ys l) : PairsAt H' ys l := h.mono fun y p ⟨t, e1, e2⟩ => ⟨t, e1, s _ _ e2⟩
def PairV (H : Hp) (v : Value) (p : Int × Str) : Prop := ∃ t, v = .ref t ∧ H t = some (.tup [.int p.1, .str p.2])
theorem pairs_vals {H : Hp} : ∀ {ys : List V} {us : List Value} {l : List (Int × Str)}, Vals ys us → PairsAt H ys l → PySem.W.EachIs (PairV H) us l
  | _, _, _, .nil, .nil => .nil
  | _, _, _, .cons r rs, .cons ⟨t, e1, e2⟩ hs => by
    subst e1
    cases r
    exact .cons ⟨t, rfl, e2⟩ (pairs_vals rs hs)
theorem vals_pairs {H : Hp} : ∀ {us : List Value} {l : List (Int × Str)}, PySem.W.EachIs (PairV H) us l → ∃ ys, Vals ys us ∧ PairsAt H ys l
  | _, _, .nil => ⟨[], .nil, .nil⟩
  | _, _, .cons ⟨t, e1, e2⟩ hs => by
    obtain ⟨ys, r, a⟩ := vals_pairs hs
    subst e1
    exact ⟨.ref t :: ys, .cons rfl r, .cons ⟨t, rfl, e2⟩ a⟩
def rSortP (K : PySem.W.Frag) : List V → Hp → VK → Prop := fun vs H Q => ∃ (a : Addr) (ys : List V) (l : List (Int × Str)), vs = [V.ref a] ∧ SqL K H a ys ∧ PairsAt H ys l ∧ l.length ≤ 5000 ∧
  ∀ p ys', H p = none → PairsAt H ys' (l.mergeSort leP) → Q (.ref p) (upd H p (.lst ys'))
theorem cr_sortedP {X : Cx} (hu : X.A.units + 64 < cLine) : CallR X (.builtin "sorted") (rSortP X.K) := by
  intro pins s σ H vs us Q I r h
  obtain ⟨a, ys, l, rfl, hs, hp, hl, q⟩ := h
  obtain rfl := Vals.ref1 r
  obtain ⟨its, rv, hL, _⟩ := I.list hs
  have e := pairs_vals rv hp
  have er : PySem.W.EachIs (fun v b => ∃ as, Reads s.heap v (pairD b) as) its l := e.mono fun v p ⟨t, e1, e2⟩ => by
    subst e1
    obtain ⟨ts, rt, ht, _⟩ := I.tuple (SqT.of (K := X.K) e2)
    obtain ⟨o, ho, hc, n, hd⟩ := ht
    cases rt with
    | cons r1 rt =>
      cases rt with
      | cons r2 rt =>
        cases rt
        obtain ⟨t1, rfl⟩ := r1
        obtain ⟨t2, rfl⟩ := r2
        exact ⟨_, .tuple ho hc hd (.cons (.int _ _) (.cons (.str _ _) .nil))⟩
  refine PySem.W.sorted_data hL.isList e er (PySem.W.AllAlike.of fun _ _ => by simp [PySem.W.alike, PySem.W.alikeAll, pairD]) (PySem.W.Sortable.tuples fun _ => ⟨_, _, rfl⟩) (Nat.le_trans hl (by decide)) (fun p _ => ?_) fun out hlen eo => ?_
  · have hd : (pairD p).depth = 1 := by simp [pairD, PyData.depth, PyData.depthAll]
    omega
  · obtain ⟨ys', rv', hp'⟩ := vals_pairs eo
    obtain ⟨ep, he⟩ := PyProof.Rows.sortedAll_at s.heap its out.toArray
    refine ⟨.ref _, upd H (s.heap.objs.size + 1) (.lst ys'), I.laid (t' := s.toks) (fun _ _ => PyProof.Rows.sortedAll_old) (Nat.le_succ _) ⟨?_, out, ep, rv', he⟩, rfl, q _ _ (I.hok.fresh (Nat.le_succ _)) hp'⟩
    rw [rv'.length, hlen]
    exact Nat.le_trans hl (by decide)
end K9
set_option Elab.async false
set_option linter.all false
set_option maxRecDepth 100000
set_option maxHeartbeats 3200000
namespace K9
open PySem L2 Tx Tg Tm
/-! ### the law's free patterns -/
def stepK : Option Nat → Nat
  | none => 2
  | some r => r
def lawPow (n : Nat) (k : Option Nat) (z : Str) : Nat → Nat → List (Int × Str)
  | 0, _ => []
  | f + 1, m => if m * z.length ≤ n ∧ (k ≠ none ∨ m = 1) then (((m * z.length : Nat) : Int), Txt.mul z ((m : Nat) : Int)) :: lawPow n k z f (m * stepK k) else []
def lawAll (n : Nat) (k : Option Nat) (l : List Str) : List (Int × Str) := l.flatMap fun z => lawPow n k z 6 1
def lawFree (sg : Str) (n : Nat) (k : Option Nat) : List Str := ((lawAll n k (leadsP sg n)).mergeSort leP).map (·.2)
theorem lawPow_len {n : Nat} {k : Option Nat} {z : Str} : ∀ f m, (lawPow n k z f m).length ≤ f
  | 0, _ => Nat.le_refl 0
  | f + 1, m => by
    unfold lawPow
    split
    · rw [List.length_cons]
      exact Nat.succ_le_succ (lawPow_len f _)
    · exact Nat.zero_le _
theorem lawAll_len {n : Nat} {k : Option Nat} : ∀ l : List Str, (lawAll n k l).length ≤ l.length * 6
  | [] => Nat.le_refl 0
  | z :: l => by
    show (lawPow n k z 6 1 ++ lawAll n k l).length ≤ _
    rw [List.length_append, List.length_cons]
    have := lawPow_len (n := n) (k := k) (z := z) 6 1
    have := lawAll_len (n := n) (k := k) l
    omega
theorem lawAll_take {n i : Nat} {k : Option Nat} {l : List Str} {t : Str} (h : l[i]? = some t) : lawAll n k (l.take (i + 1)) = lawAll n k (l.take i) ++ lawPow n k t 6 1 := by
  unfold lawAll
  rw [List.take_add_one, h, List.flatMap_append]
  simp
theorem step_ge {k : Option Nat} (h : KindOk k) : 2 ≤ stepK k ∧ stepK k ≤ 7 := by
  cases k with
  | none => exact ⟨Nat.le_refl 2, by decide⟩
  | some r =>
    show 2 ≤ r ∧ r ≤ 7
    rcases h with rfl | rfl | rfl | rfl <;> omega
theorem lead_pos' {sg : Str} (h : Signs sg) {n : Nat} (hn : n ≤ 5) {z : Str} (hz : z ∈ leadsP sg n) : 1 ≤ z.length := by
  unfold leadsP at hz
  exact lead_pos h hn z (List.mem_filter.mp hz).1
theorem PairsAt.put {H : Hp} {p : Addr} {o : HO} {xs : List V} (hp : H p = some (.lst xs)) {ys : List V} {l : List (Int × Str)} (h : PairsAt H ys l) : PairsAt (upd H p o) ys l := h.mono fun y q ⟨t, e1, e2⟩ => ⟨t, e1, by
  rw [upd_ne fun e => ?_]
  · exact e2
  · rw [e, hp] at e2
    cases e2⟩
theorem each_snoc' {α β : Type} {R : α → β → Prop} {a : α} {b : β} : ∀ {as : List α} {bs : List β}, PySem.W.EachIs R as bs → R a b → PySem.W.EachIs R (as ++ [a]) (bs ++ [b])
  | _, _, .nil, h => .cons h .nil
  | _, _, .cons r rs, h => .cons r (each_snoc' rs h)
theorem mul_le {m l n : Nat} : ((m : Int) * (l : Int) ≤ (n : Int)) ↔ m * l ≤ n := by
  rw [← Int.natCast_mul]
  exact Int.ofNat_le
theorem while_test {σ : L2.St} {H : Hp} {n m : Nat} {k : Option Nat} {z : Str} {R : Bool → Hp → Prop} (h1 : σ[1]? = some (some (.int n))) (h2 : σ[2]? = some (some (kv k))) (h4 : σ[4]? = some (some (.str z))) (h5 : σ[5]? = some (some (.int m)))
    (hz : z.length ≤ 5) (hm : m ≤ 50) (q : R (decide (m * z.length ≤ n ∧ (k ≠ none ∨ m = 1))) H) :
    tAnd (tTest (tOp (rI0 fun i j => V.bl (decide (i ≤ j))) (tOp (rI CMul fun i j => V.int (i * j)) (tVar 5) (tCB (fun xs H Q => ∃ z, xs = [V.str z] ∧ z.length ≤ sizeLine ∧ Q (V.int (z.length : Nat)) H) (tCons (tVar 4) tNil))) (tVar 1)))
      (tOr (tTest (tOp (fun x y H Q => y = V.non ∧ Q (V.bl (!decide (x = V.non))) H) (tVar 2) (tC V.non))) (tTest (tOp rEq (tVar 5) (tC (V.int 1))))) σ H R := by
  refine ⟨_, h5, _, h4, z, rfl, Nat.le_trans hz (by decide), _, _, rfl, rfl, .inl ⟨by omega, by omega⟩, _, h1, _, _, rfl, rfl, _, rfl, ?_⟩
  by_cases c1 : m * z.length ≤ n
  · rw [decide_eq_true (mul_le.mpr c1)]
    refine iteT ⟨_, h2, rfl, _, rfl, ?_⟩
    cases k with
    | some r =>
      rw [decide_eq_true ⟨c1, .inl (by simp)⟩] at q
      exact iteT q
    | none =>
      refine iteF ⟨_, h5, rfl, _, rfl, ?_⟩
      rw [dec_int]
      have e : ((m : Int) == 1) = decide (m * z.length ≤ n ∧ ((none : Option Nat) ≠ none ∨ m = 1)) := by
        rw [Bool.eq_iff_iff, beq_iff_eq, decide_eq_true_eq]
        constructor
        · intro h
          exact ⟨c1, .inr (by omega)⟩
        · rintro ⟨_, h | h⟩
          · exact absurd rfl h
          · omega
      rw [e]
      exact q
  · rw [decide_eq_false (fun h => c1 (mul_le.mp h))]
    rw [decide_eq_false (fun h : m * z.length ≤ n ∧ (k ≠ none ∨ m = 1) => c1 h.1)] at q
    exact iteF q
abbrev nLawFree : List Str := ["_law_signs_here", "_law_deep", "_law_kind_here", "_law_found", "_law_line", "_law_many", "_law_much"]
section
variable {P : Program} {w : World} {K : PySem.W.Frag} {mg : Str → Option Value} {base : Heap}
def spLawFree : Sp := fun vs H Q _ => ∃ (sg : Str) (n : Nat) (k : Option Nat), vs = [.str sg, .int n, kv k] ∧ Signs sg ∧ n ≤ 5 ∧ KindOk k ∧ ∀ p H', H p = none → Same H H' → H' p = some (.lst (txs (lawFree sg n k))) → Q (.ref p) H'
theorem scLawFree : FnScope nLawFree ["_law_signs_here", "_law_deep", "_law_kind_here"] (defScope sLawFree) := ⟨rfl, rfl, rfl, by decide +kernel, rfl, by decide +kernel, by decide +kernel⟩
theorem ok_lawfree {f fLi fLe fLa : Addr} {fd fdLi fdLe fdLa : FuncData} (F : Fun K "_law_free" "_law_free" sLawFree f fd) (T : Txt K mg) (DLi : Df K mg "_law_lines_to" sLines ["_law_signs_here", "_law_deep"] fLi fdLi) (DLe : Df K mg "_law_leads" sLeads ["_law_line"] fLe fdLe)
    (DLa : Df K mg "_law_leaders" sLeaders ["_law_signs_here", "_law_deep"] fLa fdLa) : FnOk P w K mg base CX0 3 f fd ["_law_signs_here", "_law_deep", "_law_kind_here"] spLawFree := by
  have GLa := ok_leaders (P := P) (w := w) (base := base) DLa.F T DLi DLe
  refine F.ok scLawFree (fun vs H Q E h => ?_) (fun cdv A outer s H vs Q E hr h => ?_)
  · obtain ⟨sg, n, k, rfl, _⟩ := h
    rfl
  · obtain ⟨sg, n, k, rfl, hsg, hn, hk, q⟩ := h
    refine ⟨_, pss_cons (ps_set (i := 3) scLawFree.nd rfl (Or.inl rfl) (pe_lst pa_nil))
      (pss_cons (ps_for PassesOwn.never rfl (pi_list (pe_call GLa hr (by rfl) DLa.m DLa.F.kp DLa.b .nil pass0 (pa_cons (pv 0) (pa_cons (pv 1) pa_nil)))) (pg_name (i := 4) scLawFree.nd rfl (Or.inl rfl))
        (pss_cons (ps_set (i := 5) scLawFree.nd rfl (Or.inl rfl) pe_int)
        (pss_one (ps_while PassesOwn.never (PW.pt (pw_and (pt_cmpR op_le (pe_op op_mul (pv 5) (pe_callB call_len_str (by rfl) T.len PySem.boot_len (pa_cons (pv 4) pa_nil))) (pv 1) (nomark _))
              (pw_and1 (PW.pt (pw_or (pt_cmpR op_notN (pv 2) pe_non (nomark _)) (pw_or1 (pt_cmpR op_eq (pv 5) pe_int (nomark _))))))))
          (pss_cons (ps_expr (pe_bm PySem.F.plainAttrs_list PySem.F.slot_list_append PySem.F.type_list_append mt_append (pv 3) (pa_cons (pe_tup (pa_cons (pe_op op_mul (pv 5) (pe_callB call_len_str (by rfl) T.len PySem.boot_len (pa_cons (pv 4) pa_nil)))
              (pa_cons (pe_op op_mulT (pv 4) (pv 5)) pa_nil))) pa_nil)))
          (pss_one (ps_set (i := 5) scLawFree.nd rfl (Or.inl rfl) (pe_op op_mul (pv 5) (pe_ifExp (pt_cmpR op_isN (pv 2) pe_non (nomark _)) pe_int (pv 2))))))))))
      (pss_one (ps_ret (pe_lc (own := [("_law_much", 6), ("_law_line", 4)]) (g := gTup K 2 (gCons (gName 6) (gCons (gName 4) gNil))) (tt := tYes) rfl scLawFree.nd (pi_list (pe_callB (cr_sortedP hr.units) (by rfl) T.sorted (by decide +kernel) (pa_cons (pv 3) pa_nil)))
          (blkOk_by (own := [("_law_much", 6), ("_law_line", 4)]) (N := nLawFree) (sc := defScope sLawFree) (by decide +kernel))
          (fun _ _ _ _ _ => pg_tup rfl (pgs_cons (pg_name (i := 6) scLawFree.nd rfl (Or.inl rfl)) (pgs_cons (pg_name (i := 4) scLawFree.nd rfl (Or.inl rfl)) pgs_nil))) (fun _ _ _ _ _ => pts_nil) (fun _ _ _ _ _ => pv 4))))), ?_⟩
    refine ⟨by decide, fun p np => ?_⟩
    have s0 : Same H (upd H p (.lst [])) := same_upd np
    refine ⟨_, rfl, _, rfl, sg, n, rfl, hsg, hn, fun pL H1 nL s1 eL => ?_⟩
    have eP := s1 _ _ (upd_same (H := H) (a := p) (o := .lst []))
    have hll := lead_len hsg hn
    have hl5 : ∀ z ∈ leadsP sg n, z.length ≤ 5 := fun z hz => lead_mem hsg hn hz
    have hl1 : ∀ z ∈ leadsP sg n, 1 ≤ z.length := fun z hz => lead_pos' hsg hn hz
    have eF : lawFree sg n k = ((lawAll n k (leadsP sg n)).mergeSort leP).map (·.2) := rfl
    have nLp : pL ≠ p := fun e => by
      rw [e, upd_same] at nL
      cases nL
    generalize leadsP sg n = L at eL hll hl5 hl1 eF
    have sH1 := s0.trans s1
    have hst := step_ge hk
    refine ⟨pL, rfl, ⟨_, SqL.of eL⟩, ?_⟩
    refine for_list (xs := txs L) (fun i σ H2 => ∃ (t4 t5 : Option V) (ys : List V), σ = [some (.str sg), some (.int n), some (kv k), some (.ref p), t4, t5, none] ∧ Same H H2 ∧ H2 pL = some (.lst (txs L)) ∧ H2 p = some (.lst ys) ∧ PairsAt H2 ys (lawAll n k (L.take i)))
      ⟨none, none, [], rfl, sH1, eL, eP, .nil⟩ (fun i σ H2 _ z => by obtain ⟨_, _, _, _, _, e, _⟩ := z; exact SqL.of e) ?_ ?_
    · rintro i x σ H2 hx ⟨t4, t5, ys, rfl, s2, eL2, eP2, hP⟩
      rw [List.getElem?_map] at hx
      obtain ⟨z, hz, rfl⟩ := Option.map_eq_some_iff.mp hx
      have hz5 := hl5 z (List.mem_of_getElem? hz)
      have hz1 := hl1 z (List.mem_of_getElem? hz)
      rw [lawAll_take hz]
      have hiL : i < L.length := (List.getElem?_eq_some_iff.mp hz).1
      have plen : (lawAll n k (L.take i)).length ≤ 2400 := by
        refine Nat.le_trans (lawAll_len _) ?_
        rw [List.length_take]
        omega
      refine ⟨fun f σ H3 => ∃ (m : Nat) (done : List (Int × Str)) (ys : List V), σ = [some (.str sg), some (.int n), some (kv k), some (.ref p), some (.str z), some (.int m), none] ∧ Same H H3 ∧ H3 pL = some (.lst (txs L)) ∧ H3 p = some (.lst ys) ∧
          PairsAt H3 ys (lawAll n k (L.take i) ++ done) ∧ done.length + f ≤ 6 ∧ m ≤ 50 ∧ 1 ≤ m ∧ 7 ≤ f + m ∧ done ++ lawPow n k z f m = lawPow n k z 6 1,
        ⟨6, 1, [], ys, rfl, s2, eL2, eP2, by rw [List.append_nil]; exact hP, by simp, by decide, by decide, by decide, rfl⟩, ?_⟩
      rintro f σ H3 ⟨m, done, ys, rfl, s3, eL3, eP3, hP3, hd, hm50, hm1, hm7, ee⟩
      refine while_test rfl rfl rfl rfl hz5 hm50 ?_
      refine ite2 (fun hc => ?_) (fun hc => ?_)
      · have hC := of_decide_eq_true hc
        obtain ⟨g, rfl⟩ : ∃ g, f = g + 1 := by
          have : m * 1 ≤ m * z.length := Nat.mul_le_mul_left m hz1
          exact ⟨f - 1, by omega⟩
        have m5 : m ≤ 5 := by
          have : m * 1 ≤ m * z.length := Nat.mul_le_mul_left m hz1
          omega
        refine ⟨_, fun σ' H' z' => ⟨g, Nat.lt_succ_self g, z'⟩, ?_⟩
        refine ⟨_, rfl, .inl ⟨rfl, _, SqL.of eP3⟩, _, rfl, _, rfl, z, rfl, Nat.le_trans hz5 (by decide), _, _, rfl, rfl, .inl ⟨by omega, by omega⟩, _, rfl, _, rfl, z, m, rfl, rfl, by omega, by omega, by omega, ?_⟩
        refine ⟨by show 2 ≤ sizeLine; decide, fun pt npt => ?_⟩
        have ePt : (upd H3 pt (.tup [.int ((m : Int) * (z.length : Nat)), .str (Txt.mul z m)])) p = some (.lst ys) := (same_upd npt) _ _ eP3
        refine ⟨p, _, _, rfl, rfl, ePt, ?_, ?_⟩
        · have := hP3.length
          rw [List.length_append] at this
          exact Nat.lt_of_le_of_lt (show ys.length ≤ 3000 by omega) (by decide)
        · have hP4 : PairsAt (upd H3 pt (.tup [.int ((m : Int) * (z.length : Nat)), .str (Txt.mul z m)])) ys (lawAll n k (L.take i) ++ done) := hP3.same (same_upd npt)
          have nPp : pt ≠ p := (ne_of_none eP3 npt).symm
          have hnew : PairAt (upd (upd H3 pt (.tup [.int ((m : Int) * (z.length : Nat)), .str (Txt.mul z m)])) p (.lst (ys ++ [.ref pt]))) (.ref pt) (((m * z.length : Nat) : Int), Txt.mul z ((m : Nat) : Int)) :=
            ⟨pt, rfl, by rw [upd_ne nPp, upd_same]; rfl⟩
          have hP5 := each_snoc' (hP4.put ePt (o := .lst (ys ++ [.ref pt]))) hnew
          rw [List.append_assoc] at hP5
          have fin : ∀ (st : Nat), st = stepK k → ∃ (m' : Nat) (done' : List (Int × Str)) (ys' : List V),
              [some (V.str sg), some (.int n), some (kv k), some (.ref p), some (.str z), some (.int ((m : Int) * (st : Int))), none] = [some (V.str sg), some (.int n), some (kv k), some (.ref p), some (.str z), some (.int m'), none] ∧
              Same H (upd (upd H3 pt (.tup [.int ((m : Int) * (z.length : Nat)), .str (Txt.mul z m)])) p (.lst (ys ++ [.ref pt]))) ∧
              (upd (upd H3 pt (.tup [.int ((m : Int) * (z.length : Nat)), .str (Txt.mul z m)])) p (.lst (ys ++ [.ref pt]))) pL = some (.lst (txs L)) ∧
              (upd (upd H3 pt (.tup [.int ((m : Int) * (z.length : Nat)), .str (Txt.mul z m)])) p (.lst (ys ++ [.ref pt]))) p = some (.lst ys') ∧
              PairsAt (upd (upd H3 pt (.tup [.int ((m : Int) * (z.length : Nat)), .str (Txt.mul z m)])) p (.lst (ys ++ [.ref pt]))) ys' (lawAll n k (L.take i) ++ done') ∧
              done'.length + g ≤ 6 ∧ m' ≤ 50 ∧ 1 ≤ m' ∧ 7 ≤ g + m' ∧ done' ++ lawPow n k z g m' = lawPow n k z 6 1 := by
            rintro st rfl
            have b1 : m * stepK k ≤ 5 * 7 := Nat.mul_le_mul m5 hst.2
            have b2 : m * 2 ≤ m * stepK k := Nat.mul_le_mul_left m hst.1
            refine ⟨m * stepK k, done ++ [(((m * z.length : Nat) : Int), Txt.mul z ((m : Nat) : Int))], ys ++ [.ref pt], rfl, same_put (s3.trans (same_upd npt)) np, ?_, upd_same, hP5, ?_, by omega, by omega, by omega, ?_⟩
            · rw [upd_ne nLp]
              exact (same_upd npt) _ _ eL3
            · rw [List.length_append]
              show done.length + 1 + g ≤ 6
              omega
            · rw [← ee, List.append_assoc]
              show _ = done ++ (if m * z.length ≤ n ∧ (k ≠ none ∨ m = 1) then _ else _)
              rw [if_pos hC]
              rfl
          refine ⟨_, rfl, _, rfl, rfl, _, rfl, ?_⟩
          cases k with
          | none =>
            refine iteT ?_
            refine ⟨_, _, rfl, rfl, .inr ⟨by omega, by omega⟩, ?_⟩
            exact fin 2 rfl
          | some r =>
            refine iteF ⟨_, rfl, ?_⟩
            refine ⟨_, _, rfl, rfl, .inl ⟨by omega, by omega⟩, ?_⟩
            exact fin r rfl
      · have hC : ¬ (m * z.length ≤ n ∧ (k ≠ none ∨ m = 1)) := fun c => hc (decide_eq_true c)
        have : lawPow n k z f m = [] := by
          cases f with
          | zero => rfl
          | succ f => exact if_neg hC
        rw [this, List.append_nil] at ee
        rw [ee] at hP3
        exact ⟨_, _, ys, rfl, s3, eL3, eP3, hP3⟩
    · rintro σ H2 ⟨t4, t5, ys, rfl, s2, eL2, eP2, hP⟩
      have et : L.take (txs L).length = L := List.take_of_length_le (by rw [List.length_map]; exact Nat.le_refl _)
      rw [et] at hP
      have ll := lawAll_len (n := n) (k := k) L
      refine ⟨_, rfl, p, ys, _, rfl, SqL.of eP2, hP, by omega, fun ps ys' nps hPs => ?_⟩
      have s3 : Same H2 (upd H2 ps (.lst ys')) := same_upd nps
      have hPs' := hPs.same s3
      have elen := hPs.length
      have e3 : (upd H2 ps (.lst ys')) ps = some (.lst ys') := upd_same
      have lenM : ((lawAll n k L).mergeSort leP).length = (lawAll n k L).length := List.length_mergeSort _
      generalize upd H2 ps (.lst ys') = H3 at s3 hPs' e3
      generalize (lawAll n k L).mergeSort leP = M at hPs' elen lenM eF
      refine ⟨ps, rfl, ⟨_, SqL.of e3⟩, fun D hD => ?_⟩
      refine lc_list (xs := ys') (fun i H4 => Same H3 H4 ∧ H4 D = some (.lst (txs ((M.take i).map (·.2))))) ⟨same_upd hD, upd_same⟩ (fun i H4 _ z => SqL.of (z.1 _ _ e3)) ?_ ?_
      · rintro i x H4 hx ⟨s4, e4⟩
        obtain ⟨pp, hpp, t, rfl, et⟩ : ∃ pp, M[i]? = some pp ∧ PairAt H3 x pp := by
          have hi := (List.getElem?_eq_some_iff.mp hx).1
          have hi' : i < M.length := by omega
          refine ⟨M[i], List.getElem?_eq_getElem hi', ?_⟩
          refine hPs'.zip (x, M[i]) (List.mem_of_getElem? (i := i) ?_)
          rw [List.getElem?_zip_eq_some]
          exact ⟨hx, List.getElem?_eq_getElem hi'⟩
        refine ⟨t, _, rfl, SqT.of (s4 _ _ et), rfl, _, _, rfl, _, _, rfl, rfl, ?_⟩
        refine ⟨rfl, iteT (B := Same H3 H4 ∧ H4 D = some (.lst (txs ((M.take (i + 1)).map (·.2))))) ?_⟩
        refine ⟨_, rfl, _, e4, ?_, same_put s4 hD, ?_⟩
        · rw [List.length_map, List.length_map, List.length_take]
          exact Nat.lt_of_le_of_lt (show _ ≤ 3000 by omega) (by decide)
        · rw [upd_same, List.take_add_one, hpp, List.map_append]
          show _ = some (HO.lst (List.map V.str (_ ++ _)))
          rw [List.map_append]
          rfl
      · rintro H4 ⟨s4, e4⟩
        have em : M.take ys'.length = M := List.take_of_length_le (by omega)
        rw [em, ← eF] at e4
        have s5 := s2.trans s3
        exact q D _ (free_none s5 hD) (s5.trans s4) e4
end
end K9
set_option Elab.async false
set_option linter.all false
set_option maxRecDepth 100000
set_option maxHeartbeats 3200000
namespace K9
open PySem L2 Tx Tg Tm
/-! ### sums over divisors -/
def sumL (k n : Nat) : Nat → Int
  | 0 => 0
  | i + 1 => if n % (i + 1) = 0 then sumL k n i + ((i + 1 : Nat) : Int) * hm k (i + 1) else sumL k n i
theorem sum_all : ∀ k ∈ [1, 2, 3], ∀ n ∈ List.range 61, sumL k n n = (k : Int) ^ n ∨ n = 0 := by decide +kernel
/-- what powers of the prime add -/
def dueL (k : Nat) (kind : Option Nat) : Nat → Nat → Int
  | 0, _ => 0
  | f + 1, part => match kind with
    | none => 0
    | some r => if part % r = 0 then hm k (part / r) + dueL k kind f (part / r) else 0
def sized (m : Nat) (z : Str) : Bool := z.length == m
def divB (k : Option Nat) (p : Nat) : Bool := match k with
  | none => false
  | some r => p % r == 0
theorem due_stop {c : Nat} {k : Option Nat} {p : Nat} (h : divB k p = false) : ∀ f, dueL c k f p = 0
  | 0 => rfl
  | f + 1 => by
    cases k with
    | none => rfl
    | some r =>
      have : ¬ p % r = 0 := fun e => by
        have h' : (p % r == 0) = false := h
        rw [e] at h'
        cases h'
      exact if_neg this
theorem pr_test {σ : L2.St} {H : Hp} {p : Nat} {k : Option Nat} {R : Bool → Hp → Prop} (h2 : σ[2]? = some (some (kv k))) (h6 : σ[6]? = some (some (.int p))) (hk : KindOk k) (q : R (divB k p) H) :
    tAnd (tTest (tOp (fun x y H Q => y = V.non ∧ Q (V.bl (!decide (x = V.non))) H) (tVar 2) (tC V.non)))
      (tTest (tOp rEq (tOp (rI (fun x j => 0 < j) fun i j => V.int (i % j)) (tCB (fun xs H Q => (∃ i, xs = [V.int i] ∧ Q (V.int i) H) ∨ ∃ k, xs = [V.bl k] ∧ Q (V.int (if k = true then 1 else 0)) H) (tCons (tVar 6) tNil)) (tVar 2)) (tC (V.int 0)))) σ H R := by
  refine ⟨_, h2, rfl, _, rfl, ?_⟩
  cases k with
  | none => exact iteF q
  | some r =>
    have hr : 2 ≤ r := (step_ge hk).1
    refine iteT ⟨_, h6, .inl ⟨_, rfl, _, h2, _, _, rfl, rfl, by omega, rfl, _, rfl, ?_⟩⟩
    rw [dec_int]
    have e : (((p : Int) % (r : Int)) == 0) = (p % r == 0) := by
      have em : (p : Int) % (r : Int) = ((p % r : Nat) : Int) := rfl
      rw [em, Bool.eq_iff_iff, beq_iff_eq, beq_iff_eq]
      omega
    rw [e]
    exact q
abbrev nSum : List Str := ["_law_signs_here", "_law_much", "_law_found", "_law_power", "_law_turn", "_law_part"]
abbrev nPR : List Str := ["_law_signs_here", "_law_deep", "_law_kind_here", "_law_told", "_law_much", "_law_due", "_law_part", "_law_line"]
theorem sg_len {sg : Str} (h : Signs sg) : sg.length ∈ [1, 2, 3] := by
  rcases h with rfl | rfl | rfl | rfl <;> decide +kernel
section
variable {P : Program} {w : World} {K : PySem.W.Frag} {mg : Str → Option Value} {base : Heap}
def spSumRight : Sp := fun vs H Q _ => ∃ (sg : Str) (n : Nat), vs = [.str sg, .int n] ∧ Signs sg ∧ 1 ≤ n ∧ n ≤ 60 ∧ ∀ H', Same H H' → Q (.bl true) H'
theorem scSum : FnScope nSum ["_law_signs_here", "_law_much"] (defScope sSumRight) := ⟨rfl, rfl, rfl, by decide +kernel, rfl, by decide +kernel, by decide +kernel⟩
theorem ok_sumright {f fM : Addr} {fd fdM : FuncData} (F : Fun K "_law_sum_right" "_law_sum_right" sSumRight f fd) (T : Txt K mg) (DM : Df K mg "how_many" sMany ["letters", "size"] fM fdM)
    (GM : FnOk P w K mg base CX0 4 fM fdM ["letters", "size"] spMany) : FnOk P w K mg base CX0 5 f fd ["_law_signs_here", "_law_much"] spSumRight := by
  refine F.ok scSum (fun vs H Q E h => ?_) (fun cdv A outer s H vs Q E hr h => ?_)
  · obtain ⟨sg, n, rfl, _⟩ := h
    rfl
  · obtain ⟨sg, n, rfl, hsg, h1, hn, q⟩ := h
    refine ⟨_, pss_cons (ps_asg (pe_tup (pa_cons pe_int (pa_cons pe_int pa_nil))) (pg_tup rfl (pgs_cons (pg_name (i := 2) scSum.nd rfl (Or.inl rfl)) (pgs_cons (pg_name (i := 3) scSum.nd rfl (Or.inl rfl)) pgs_nil))))
      (pss_cons (ps_for PassesOwn.never rfl (pi_range1 rfl T.range (pa_cons (pv 1) pa_nil)) (pg_name (i := 4) scSum.nd rfl (Or.inl rfl))
        (pss_one (ps_set (i := 3) scSum.nd rfl (Or.inl rfl) (pe_op op_mul (pv 3) (pe_callB call_len_str (by rfl) T.len PySem.boot_len (pa_cons (pv 0) pa_nil))))))
      (pss_cons (ps_for PassesOwn.never rfl (pi_range2 rfl T.range (pa_cons pe_int (pa_cons (pe_op op_add (pv 1) pe_int) pa_nil))) (pg_name (i := 5) scSum.nd rfl (Or.inl rfl))
        (pss_one (ps_if (pt_cmpR op_eq (pe_op op_mod (pe_callTy call_int1 (by rfl) T.int (by decide +kernel) (pa_cons (pv 1) pa_nil)) (pv 5)) pe_int (nomark _))
          (pss_one (ps_set (i := 2) scSum.nd rfl (Or.inl rfl) (pe_op op_add (pv 2) (pe_op op_mul (pv 5) (pe_call GM hr (by rfl) DM.m DM.F.kp DM.b .nil pass0 (pa_cons (pv 0) (pa_cons (pv 5) pa_nil))))))) pss_nil)))
      (pss_one (ps_ret (pe_cmpR op_eq (pv 2) (pv 3) (nomark _)))))), ?_⟩
    have hs3 := sg_short hsg
    refine ⟨by show 2 ≤ sizeLine; decide, fun pt npt => ⟨pt, _, rfl, SqT.of upd_same, rfl, _, _, rfl, _, _, rfl, rfl, ?_⟩⟩
    have q := fun H' s' => q H' ((same_upd (o := .tup [.int 0, .int 1]) npt).trans s')
    generalize upd H pt (.tup [.int 0, .int 1]) = H at q ⊢
    refine ⟨_, rfl, n, rfl, by omega, by omega, for_range (n := n) (fun i σ H1 => ∃ t : Option V, σ = [some (.str sg), some (.int n), some (.int 0), some (.int ((sg.length : Int) ^ i)), t, none] ∧ H1 = H) ⟨none, rfl, rfl⟩ ?_ ?_⟩
    · rintro i σ H1 hi ⟨t, rfl, rfl⟩
      refine ⟨_, rfl, _, rfl, sg, rfl, Nat.le_trans hs3 (by decide), _, _, rfl, rfl, .inr ⟨by omega, by omega⟩, ⟨_, rfl, rfl⟩⟩
    · rintro σ H1 ⟨t, rfl, rfl⟩
      refine ⟨_, rfl, _, _, rfl, rfl, _, _, rfl, ⟨by omega, by omega, by omega, by omega⟩, ?_⟩
      have en : ((n : Int) + 1 - 1).toNat = n := by omega
      rw [en]
      have el : ∀ i : Nat, (1 : Int) + (i : Nat) = ((i + 1 : Nat) : Int) := fun i => by omega
      refine for_range (lo := 1) (n := n) (fun i σ H2 => ∃ t5 : Option V, σ = [some (.str sg), some (.int n), some (.int (sumL sg.length n i)), some (.int ((sg.length : Int) ^ n)), t, t5] ∧ Same H1 H2) ⟨none, rfl, Same.refl _⟩ ?_ ?_
      · rintro i σ H2 hi ⟨t5, rfl, s2⟩
        rw [el i]
        refine ⟨_, rfl, .inl ⟨_, rfl, _, rfl, _, _, rfl, rfl, by omega, rfl, _, rfl, ?_⟩⟩
        rw [dec_int]
        have em : (n : Int) % ((i + 1 : Nat) : Int) = ((n % (i + 1) : Nat) : Int) := rfl
        rw [em]
        refine ite2 (fun hc => ?_) (fun hc => ?_)
        · have hc' : n % (i + 1) = 0 := by
            have := beq_iff_eq.mp hc
            omega
          refine ⟨_, rfl, _, rfl, _, rfl, _, rfl, sg, i + 1, rfl, hsg, by omega, by omega, fun H3 s3 => ?_⟩
          refine ⟨_, _, rfl, rfl, .inl ⟨by omega, by omega⟩, _, _, rfl, rfl, ?_⟩
          refine ⟨some (.int ((i + 1 : Nat) : Int)), ?_, s2.trans s3⟩
          have e : sumL sg.length n (i + 1) = sumL sg.length n i + ((i + 1 : Nat) : Int) * hm sg.length (i + 1) := if_pos hc'
          rw [e]
          rfl
        · have hc' : ¬ n % (i + 1) = 0 := fun z => hc (beq_iff_eq.mpr (by omega))
          refine ⟨some (.int ((i + 1 : Nat) : Int)), ?_, s2⟩
          have e : sumL sg.length n (i + 1) = sumL sg.length n i := if_neg hc'
          rw [e]
          rfl
      · rintro σ H2 ⟨t5, rfl, s2⟩
        refine ⟨_, rfl, _, rfl, rfl, ?_⟩
        have e := (sum_all sg.length (sg_len hsg) n (List.mem_range.mpr (by omega))).resolve_right (by omega)
        rw [e, dec_int, beq_self_eq_true]
        exact q _ s2
def spPowRight : Sp := fun vs H Q _ => ∃ (sg : Str) (n : Nat) (k : Option Nat) (a : Addr) (l : List Str), vs = [.str sg, .int n, kv k, .ref a] ∧ H a = some (.tup (txs l)) ∧ Signs sg ∧ n ≤ 5 ∧ KindOk k ∧ l.length ≤ 5000 ∧ (∀ z ∈ l, z.length ≤ 5) ∧
  (∀ m, 1 ≤ m → m ≤ n → ((l.filter (sized m)).length : Int) = hm sg.length m + dueL sg.length k 6 m) ∧ ∀ H', Same H H' → Q (.bl true) H'
theorem scPR : FnScope nPR ["_law_signs_here", "_law_deep", "_law_kind_here", "_law_told"] (defScope sPowRight) := ⟨rfl, rfl, rfl, by decide +kernel, rfl, by decide +kernel, by decide +kernel⟩
theorem ok_powright {f fM : Addr} {fd fdM : FuncData} (F : Fun K "_law_powers_right" "_law_powers_right" sPowRight f fd) (T : Txt K mg) (DM : Df K mg "how_many" sMany ["letters", "size"] fM fdM)
    (GM : FnOk P w K mg base CX0 4 fM fdM ["letters", "size"] spMany) : FnOk P w K mg base CX0 5 f fd ["_law_signs_here", "_law_deep", "_law_kind_here", "_law_told"] spPowRight := by
  refine F.ok scPR (fun vs H Q E h => ?_) (fun cdv A outer s H vs Q E hr h => ?_)
  · obtain ⟨sg, n, k, a, l, rfl, _⟩ := h
    rfl
  · obtain ⟨sg, n, k, a, l, rfl, ea, hsg, hn, hk, hll, hl5, hf, q⟩ := h
    refine ⟨_, pss_cons (ps_for PassesOwn.never rfl (pi_range2 rfl T.range (pa_cons pe_int (pa_cons (pe_op op_add (pv 1) pe_int) pa_nil))) (pg_name (i := 4) scPR.nd rfl (Or.inr rfl))
        (pss_cons (ps_par (i := 5) (j := 6) (by rfl) scPR.nd rfl rfl (by decide) rfl rfl (pa_cons (pe_call GM hr (by rfl) DM.m DM.F.kp DM.b .nil pass0 (pa_cons (pv 0) (pa_cons (pv 4) pa_nil))) (pa_cons (pv 4) pa_nil)) (by rfl))
        (pss_cons (ps_while PassesOwn.never (PW.pt (pw_and (pt_cmpR op_notN (pv 2) pe_non (nomark _)) (pw_and1 (pt_cmpR op_eq (pe_op op_mod (pe_callTy call_int1 (by rfl) T.int (by decide +kernel) (pa_cons (pv 6) pa_nil)) (pv 2)) pe_int (nomark _)))))
          (pss_cons (ps_set (i := 6) scPR.nd rfl (Or.inl rfl) (pe_op op_fdiv (pe_callTy call_int1 (by rfl) T.int (by decide +kernel) (pa_cons (pv 6) pa_nil)) (pv 2)))
          (pss_one (ps_set (i := 5) scPR.nd rfl (Or.inl rfl) (pe_op op_add (pv 5) (pe_call GM hr (by rfl) DM.m DM.F.kp DM.b .nil pass0 (pa_cons (pv 0) (pa_cons (pv 6) pa_nil))))))))
        (pss_one (ps_if (pt_cmpR op_ne (pe_callB call_len (by rfl) T.len PySem.boot_len (pa_cons (pe_lc (own := [("_law_line", 7)]) (g := gName 7) rfl scPR.nd (pi_tup (pv 3))
            (blkOk_by (own := [("_law_line", 7)]) (N := nPR) (sc := defScope sPowRight) (by decide +kernel)) (fun _ _ _ _ _ => pg_name (i := 7) scPR.nd rfl (Or.inl rfl))
            (fun _ _ _ _ _ => pts_one (pt_cmpR op_eq (pe_callB call_len_str (by rfl) T.len PySem.boot_len (pa_cons (pv 7) pa_nil)) (pv 4) (nomark _))) (fun _ _ _ _ _ => pv 7)) pa_nil)) (pv 5) (nomark _))
          (pss_one (ps_ret pe_bl)) pss_nil)))))
      (pss_one (ps_ret pe_bl)), ?_⟩
    refine ⟨_, rfl, _, _, rfl, rfl, _, _, rfl, ⟨by omega, by omega, by omega, by omega⟩, ?_⟩
    have en : ((n : Int) + 1 - 1).toNat = n := by omega
    rw [en]
    have el : ∀ i : Nat, (1 : Int) + (i : Nat) = ((i + 1 : Nat) : Int) := fun i => by omega
    refine for_range (lo := 1) (n := n) (fun i σ H1 => ∃ t4 t5 t6 : Option V, σ = [some (.str sg), some (.int n), some (kv k), some (.ref a), t4, t5, t6, none] ∧ Same H H1) ⟨none, none, none, rfl, Same.refl _⟩ ?_ ?_
    · rintro i σ H1 hi ⟨t4, t5, t6, rfl, s1⟩
      rw [el i]
      refine ⟨_, rfl, _, rfl, sg, i + 1, rfl, hsg, by omega, by omega, fun H2 s2 => ?_⟩
      refine ⟨_, rfl, _, _, rfl, ?_⟩
      have FIN : ∀ (t : Option V) (H3 : Hp), Same H H3 → True := fun _ _ _ => trivial
      refine ⟨fun f σ H3 => ∃ (d : Int) (p : Nat), σ = [some (.str sg), some (.int n), some (kv k), some (.ref a), some (.int ((i + 1 : Nat) : Int)), some (.int d), some (.int p), none] ∧ Same H H3 ∧ 1 ≤ p ∧ p ≤ f ∧ p ≤ 5 ∧ d + dueL sg.length k f p = hm sg.length (i + 1) + dueL sg.length k 6 (i + 1),
        ⟨6, hm sg.length (i + 1), i + 1, rfl, s1.trans s2, by omega, by omega, by omega, rfl⟩, ?_⟩
      rintro f σ H3 ⟨d, p, rfl, s3, hp1, hpf, hp5, ee⟩
      refine pr_test rfl rfl hk ?_
      refine ite2 (fun hc => ?_) (fun hc => ?_)
      · cases k with
        | none => cases hc
        | some r =>
          obtain ⟨g, rfl⟩ : ∃ g, f = g + 1 := ⟨f - 1, by omega⟩
          have r2 : 2 ≤ r := (step_ge hk).1
          have r7 : r ≤ 7 := (step_ge hk).2
          have hm0 : p % r = 0 := beq_iff_eq.mp hc
          have hdiv : p / r < p := Nat.div_lt_self hp1 r2
          have hdiv1 : 1 ≤ p / r := by
            have := Nat.div_add_mod p r
            rw [hm0, Nat.add_zero] at this
            rcases Nat.eq_zero_or_pos (p / r) with e | e
            · rw [e, Nat.mul_zero] at this
              omega
            · exact e
          refine ⟨_, fun σ' H' z' => ⟨g, Nat.lt_succ_self g, z'⟩, ?_⟩
          refine ⟨_, rfl, .inl ⟨_, rfl, _, rfl, _, _, rfl, rfl, ⟨by omega, by omega⟩, ?_⟩⟩
          refine ⟨_, rfl, _, rfl, _, rfl, sg, p / r, rfl, hsg, hdiv1, by omega, fun H4 s4 => ?_⟩
          refine ⟨_, _, rfl, rfl, ?_⟩
          refine ⟨d + hm sg.length (p / r), p / r, rfl, s3.trans s4, hdiv1, by omega, by omega, ?_⟩
          have ed : dueL sg.length (some r) (g + 1) p = hm sg.length (p / r) + dueL sg.length (some r) g (p / r) := if_pos hm0
          rw [← ee, ed]
          omega
      · have hb : divB k p = false := by simpa using hc
        rw [due_stop hb f, Int.add_zero] at ee
        have hfi := hf (i + 1) (by omega) (by omega)
        rw [← ee] at hfi
        have ea3 := s3 _ _ ea
        refine ⟨_, rfl, a, rfl, ⟨_, SqT.of ea3⟩, fun D hD => ?_⟩
        refine lc_tup (xs := txs l) (fun j H4 => Same H3 H4 ∧ H4 D = some (.lst (txs ((l.take j).filter (sized (i + 1)))))) ⟨same_upd hD, upd_same⟩ (fun j H4 _ z => SqT.of (z.1 _ _ ea3)) ?_ ?_
        · rintro j x H4 hx ⟨s4, e4⟩
          rw [List.getElem?_map] at hx
          obtain ⟨y, hy, rfl⟩ := Option.map_eq_some_iff.mp hx
          have hy5 := hl5 y (List.mem_of_getElem? hy)
          refine ⟨rfl, _, rfl, y, rfl, Nat.le_trans hy5 (by decide), _, rfl, rfl, _, rfl, ?_⟩
          rw [dec_int, List.take_add_one, hy, List.filter_append]
          have eb : ((y.length : Int) == ((i + 1 : Nat) : Int)) = sized (i + 1) y := by
            unfold sized
            rw [Bool.eq_iff_iff, beq_iff_eq, beq_iff_eq]
            omega
          rw [eb]
          refine ite2 (fun hc => ?_) (fun hc => ?_)
          · refine ⟨_, rfl, _, e4, ?_, same_put s4 hD, ?_⟩
            · rw [List.length_map]
              refine Nat.lt_of_le_of_lt (Nat.le_trans (List.length_filter_le _ _) (show _ ≤ 5000 from ?_)) (by decide)
              rw [List.length_take]
              omega
            · have eg : (Option.toList (some y)).filter (sized (i + 1)) = [y] := by simp [hc]
              rw [upd_same, eg]
              show _ = some (HO.lst (List.map V.str (_ ++ _)))
              rw [List.map_append]
              rfl
          · have eg : (Option.toList (some y)).filter (sized (i + 1)) = [] := by simp [hc]
            rw [eg, List.append_nil]
            exact ⟨s4, e4⟩
        · rintro H4 ⟨s4, e4⟩
          have et : l.take (txs l).length = l := List.take_of_length_le (by rw [List.length_map]; exact Nat.le_refl _)
          rw [et] at e4
          refine ⟨_, (l.filter (sized (i + 1))).length, rfl, .inl ⟨_, SqL.of e4, by rw [List.length_map]⟩, _, rfl, rfl, _, rfl, ?_⟩
          rw [dec_int, hfi, beq_self_eq_true]
          exact iteF ⟨_, _, _, rfl, s3.trans s4⟩
    · rintro σ H1 ⟨t4, t5, t6, rfl, s1⟩
      exact q _ s1
end
end K9
set_option Elab.async false
set_option linter.all false
set_option maxRecDepth 100000
set_option maxHeartbeats 3200000
namespace K9
open PySem L2 Tx Tg Tm
def sgs : List Str := ["ab", "xy", "a", "abc"]
def key (t : Str) : Int × Str := ((t.length : Int), t)
theorem chk1 : ∀ sg ∈ sgs, ∀ n ∈ List.range 6, ∀ r ∈ [2, 3, 5, 7], (leadsP sg n).all (fun z => decide (lawPow n (some r) z 6 1 = (lpow n r 6 z).map key)) = true := by decide +kernel
theorem chk2 : ∀ sg ∈ sgs, ∀ n ∈ List.range 6, (leadsP sg n).all (fun z => decide (lawPow n none z 6 1 = [key z])) = true := by decide +kernel
theorem chk4 : ∀ sg ∈ sgs, ∀ n ∈ List.range 6, ∀ m ∈ List.range 6, 1 ≤ m → m ≤ n → (((leadsP sg n).filter (sized m)).length : Int) = hm sg.length m + dueL sg.length none 6 m := by decide +kernel
theorem chk5 : ∀ sg ∈ sgs, ∀ n ∈ List.range 6, ∀ r ∈ [2, 3, 5, 7], ∀ m ∈ List.range 6, 1 ≤ m → m ≤ n → (((powsP n r (leadsP sg n)).filter (sized m)).length : Int) = hm sg.length m + dueL sg.length (some r) 6 m := by decide +kernel
theorem chk6 : ∀ sg ∈ sgs, ∀ n ∈ List.range 6, (leadsP sg n).all (fun z => decide ((PyData.shown (.str z)).length ≤ 20)) = true := by decide +kernel
theorem chk7 : ∀ sg ∈ sgs, ∀ n ∈ List.range 6, ∀ r ∈ [2, 3, 5, 7], (powsP n r (leadsP sg n)).all (fun z => decide ((PyData.shown (.str z)).length ≤ 20)) = true := by decide +kernel
/-- the order in plain words -/
def leS (a b : Str) : Bool := if a.length = b.length then decide (a.cps.toList ≤ b.cps.toList) else decide (a.length < b.length)
theorem chk3 : ∀ sg ∈ sgs, ∀ n ∈ List.range 6, (leadsP sg n).Pairwise (fun a b => leS a b = true) := by decide +kernel
theorem leK_eq (a b : Str) : leK a b = leS a b := by
  have e1 : leK a b = !PySem.W.dataLt (keyD b) (keyD a) := rfl
  have ei : ∀ x y : Int, PySem.W.dataLt (.int x) (.int y) = decide (x < y) := fun x y => by
    have := congrFun (congrFun (PySem.W.dataLe_int (β := Int) id) y) x
    have e : PySem.W.dataLe false (fun b : Int => PyData.int (id b)) y x = !PySem.W.dataLt (.int x) (.int y) := rfl
    rw [e] at this
    have h2 : PySem.W.dataLt (.int x) (.int y) = !decide (y ≤ x) := by rw [← show (!PySem.W.dataLt (.int x) (.int y)) = decide (y ≤ x) from this, Bool.not_not]
    rw [h2]
    by_cases h : x < y
    · rw [decide_eq_true h, decide_eq_false (by omega)]
      rfl
    · rw [decide_eq_false h, decide_eq_true (by omega)]
      rfl
  have es : ∀ x y : Str, (!PySem.W.dataLt (.str x) (.str y)) = decide (y.cps.toList ≤ x.cps.toList) := fun x y => congrFun (congrFun (PySem.W.dataLe_str (β := Str) id) y) x
  rw [e1]
  unfold keyD leS
  rw [PySem.W.dataLt_pair (by simp [PySem.W.alike]) (by simp [PySem.W.alike])]
  have eqi : PyData.eqv (.int (b.length : Nat)) (.int (a.length : Nat)) = decide (b.length = a.length) := by
    have : PyData.eqv (.int (b.length : Nat)) (.int (a.length : Nat)) = ((b.length : Int) == (a.length : Int)) := rfl
    rw [this, Bool.eq_iff_iff, beq_iff_eq, decide_eq_true_eq]
    omega
  have eqs : PyData.eqv (.str b) (.str a) = (b == a) := rfl
  rw [eqi, eqs]
  by_cases h : a.length = b.length
  · rw [if_pos (decide_eq_true h.symm), if_pos h]
    by_cases hs : b = a
    · rw [if_pos (beq_iff_eq.mpr hs), hs]
      exact (decide_eq_true (List.le_refl _)).symm
    · rw [if_neg (fun e => hs (beq_iff_eq.mp e)), es]
  · rw [if_neg (fun e => h (of_decide_eq_true e).symm), if_neg h, ei]
    by_cases hl : a.length < b.length
    · rw [decide_eq_true hl, decide_eq_false (by omega)]
      rfl
    · rw [decide_eq_false hl, decide_eq_true (by omega)]
      rfl
theorem leS_trans (a b c : Str) (h1 : leS a b = true) (h2 : leS b c = true) : leS a c = true := by
  unfold leS at *
  split at h1 <;> split at h2 <;> split
  · exact decide_eq_true (List.le_trans (of_decide_eq_true h1) (of_decide_eq_true h2))
  · omega
  · omega
  · have := of_decide_eq_true h2
    exact decide_eq_true (by omega)
  · have := of_decide_eq_true h1
    omega
  · have := of_decide_eq_true h1
    exact decide_eq_true (by omega)
  · have := of_decide_eq_true h1
    have := of_decide_eq_true h2
    omega
  · have := of_decide_eq_true h1
    have := of_decide_eq_true h2
    exact decide_eq_true (by omega)
theorem leS_total (a b : Str) : (leS a b || leS b a) = true := by
  unfold leS
  by_cases h : a.length = b.length
  · rw [if_pos h, if_pos h.symm, Bool.or_eq_true, decide_eq_true_eq, decide_eq_true_eq]
    exact List.le_total _ _
  · rw [if_neg h, if_neg (fun e => h e.symm), Bool.or_eq_true, decide_eq_true_eq, decide_eq_true_eq]
    omega
theorem leS_anti (a b : Str) (h1 : leS a b = true) (h2 : leS b a = true) : a = b := by
  unfold leS at *
  split at h1
  · rename_i h
    rw [if_pos h.symm] at h2
    exact PySem.W.str_of_cps (List.le_antisymm (of_decide_eq_true h1) (of_decide_eq_true h2))
  · rename_i h
    rw [if_neg (fun e => h e.symm)] at h2
    have := of_decide_eq_true h1
    have := of_decide_eq_true h2
    omega
theorem leK_fun : leK = leS := funext fun a => funext fun b => leK_eq a b
/-- a rising list of the same texts is the sorted one -/
theorem sort_is {l m : List Str} (p : m.Perm l) (h : m.Pairwise fun a b => leS a b = true) : l.mergeSort leK = m := by
  rw [leK_fun]
  have h2 := List.pairwise_mergeSort leS_trans leS_total l
  exact ((List.mergeSort_perm l leS).trans p.symm).eq_of_pairwise (fun a b _ _ => leS_anti a b) h2 h
theorem in_sgs {sg : Str} (h : Signs sg) : sg ∈ sgs := by rcases h with rfl | rfl | rfl | rfl <;> simp [sgs]
theorem in_r {r : Nat} (h : KindOk (some r)) : r ∈ [2, 3, 5, 7] := by rcases h with rfl | rfl | rfl | rfl <;> simp
theorem in_n {n m : Nat} (h : n ≤ m) : n ∈ List.range (m + 1) := List.mem_range.mpr (by omega)
theorem flat_congr {α β : Type} {f g : α → List β} : ∀ {l : List α}, (∀ z ∈ l, f z = g z) → l.flatMap f = l.flatMap g
  | [], _ => rfl
  | z :: l, h => by
    rw [List.flatMap_cons, List.flatMap_cons, h z List.mem_cons_self, flat_congr fun y hy => h y (List.mem_cons_of_mem _ hy)]
theorem flat_one {α β : Type} {f : α → β} : ∀ l : List α, l.flatMap (fun z => [f z]) = l.map f
  | [] => rfl
  | z :: l => by
    rw [List.flatMap_cons, flat_one l]
    rfl
theorem key_snd (l : List Str) : (l.map key).map (·.2) = l := by
  rw [List.map_map]
  exact (List.map_congr_left fun _ _ => rfl).trans (List.map_id l)
theorem sort_key (l : List Str) : ((l.map key).mergeSort leP).map (·.2) = l.mergeSort leK := by
  have e : (l.mergeSort leK).map key = (l.map key).mergeSort leP := List.map_mergeSort fun a _ b _ => rfl
  rw [← e, key_snd]
theorem law_free {sg : Str} (h : Signs sg) {n : Nat} (hn : n ≤ 5) {k : Option Nat} (hk : KindOk k) : lawFree sg n k = freeP sg n k := by
  cases k with
  | none =>
    have e : lawAll n none (leadsP sg n) = (leadsP sg n).map key := by
      unfold lawAll
      rw [← flat_one]
      exact flat_congr fun z hz => of_decide_eq_true (List.all_eq_true.mp (chk2 sg (in_sgs h) n (in_n hn)) z hz)
    unfold lawFree
    rw [e, sort_key]
    exact sort_is (List.Perm.refl _) (chk3 sg (in_sgs h) n (in_n hn))
  | some r =>
    have e : lawAll n (some r) (leadsP sg n) = (powsP n r (leadsP sg n)).map key := by
      unfold lawAll powsP
      rw [List.map_flatMap]
      exact flat_congr fun z hz => of_decide_eq_true (List.all_eq_true.mp (chk1 sg (in_sgs h) n (in_n hn) r (in_r hk)) z hz)
    unfold lawFree
    rw [e, sort_key]
    rfl
theorem free_count {sg : Str} (h : Signs sg) {n : Nat} (hn : n ≤ 5) {k : Option Nat} (hk : KindOk k) (m : Nat) (h1 : 1 ≤ m) (h2 : m ≤ n) : (((freeP sg n k).filter (sized m)).length : Int) = hm sg.length m + dueL sg.length k 6 m := by
  cases k with
  | none => exact chk4 sg (in_sgs h) n (in_n hn) m (in_n (by omega)) h1 h2
  | some r =>
    rw [← chk5 sg (in_sgs h) n (in_n hn) r (in_r hk) m (in_n (by omega)) h1 h2]
    have p := (List.mergeSort_perm (powsP n r (leadsP sg n)) leK).filter (sized m)
    exact congrArg _ p.length_eq
theorem free_mem {sg : Str} (h : Signs sg) {n : Nat} (hn : n ≤ 5) {k : Option Nat} (hk : KindOk k) {z : Str} (hz : z ∈ freeP sg n k) : z.length ≤ 5 ∧ (PyData.shown (.str z)).length ≤ 20 := by
  cases k with
  | none => exact ⟨lead_mem h hn hz, of_decide_eq_true (List.all_eq_true.mp (chk6 sg (in_sgs h) n (in_n hn)) z hz)⟩
  | some r =>
    have hz' := (List.mergeSort_perm (powsP n r (leadsP sg n)) leK).mem_iff.mp hz
    obtain ⟨y, _, hy⟩ := List.mem_flatMap.mp hz'
    exact ⟨Nat.le_trans (lpow_mem 6 y z hy) hn, of_decide_eq_true (List.all_eq_true.mp (chk7 sg (in_sgs h) n (in_n hn) r (in_r hk)) z hz')⟩
theorem free_len {sg : Str} (h : Signs sg) {n : Nat} (hn : n ≤ 5) {k : Option Nat} : (freeP sg n k).length ≤ 2400 := by
  have hl := lead_len h hn
  cases k with
  | none =>
    show (leadsP sg n).length ≤ 2400
    omega
  | some r =>
    show ((powsP n r (leadsP sg n)).mergeSort leK).length ≤ 2400
    rw [List.length_mergeSort]
    have := powsP_len (n := n) (r := r) (leadsP sg n)
    omega
/-! ### texts as data -/
abbrev strsD (l : List Str) : List PyData := l.map PyData.str
theorem all_strs (K : PySem.W.Frag) (H : Hp) : ∀ l : List Str, DpAll K H (txs l) (strsD l)
  | [] => .nil
  | c :: l => .cons (.str _) (all_strs K H l)
theorem eqv_self : ∀ l : List Str, PyData.eqvAll (strsD l) (strsD l) = true
  | [] => rfl
  | c :: l => by
    show ((c == c) && PyData.eqvAll (strsD l) (strsD l)) = true
    rw [eqv_self l, beq_self_eq_true]
    rfl
theorem show_all : ∀ l : List Str, PyData.showableAll (strsD l) = true
  | [] => rfl
  | c :: l => by
    show (true && PyData.showableAll (strsD l)) = true
    rw [show_all l]
    rfl
theorem nodict_all : ∀ l : List Str, PyData.hasDictAll (strsD l) = false
  | [] => rfl
  | c :: l => by
    show (false || PyData.hasDictAll (strsD l)) = false
    rw [nodict_all l]
    rfl
theorem depth_all : ∀ l : List Str, PyData.depthAll (strsD l) = 0
  | [] => rfl
  | c :: l => by
    show max 0 (PyData.depthAll (strsD l)) = 0
    rw [depth_all l]
    rfl
end K9
set_option Elab.async false
set_option linter.all false
set_option maxRecDepth 100000
set_option maxHeartbeats 3200000
namespace K9
open PySem L2 Tx Tg Tm
theorem str_app (a b : Str) : (a ++ b).length = a.length + b.length := Array.size_append
theorem piled_le : ∀ l : List Str, (∀ z ∈ l, (PyData.shown (.str z)).length ≤ 20) → PySem.piled (PyData.shownAll (strsD l)) ≤ 22 * l.length
  | [], _ => Nat.zero_le _
  | z :: l, h => by
    show PySem.piled (PyData.shown (.str z) :: PyData.shownAll (strsD l)) ≤ _
    rw [PySem.piled_cons, List.length_cons]
    have := h z List.mem_cons_self
    have := piled_le l fun y hy => h y (List.mem_cons_of_mem _ hy)
    omega
theorem shown_len {l : List Str} (h : ∀ z ∈ l, (PyData.shown (.str z)).length ≤ 20) (hl : l.length ≤ 2400) : (PyData.shown (.tuple (strsD l))).length ≤ sizeLine := by
  have hp := piled_le l h
  have hj : (Str.join ", " (PyData.shownAll (strsD l))).length ≤ 22 * l.length := by
    by_cases e : PyData.shownAll (strsD l) = []
    · rw [e]
      exact Nat.zero_le _
    · have := PySem.join_length_add _ e
      omega
  show (("(" : Str) ++ Str.join ", " (PyData.shownAll (strsD l)) ++ (if (PyData.shownAll (strsD l)).length == 1 then ",)" else ")" : String)).length ≤ sizeLine
  rw [str_app, str_app]
  have e1 : ("(" : Str).length = 1 := by decide +kernel
  have e2 : ∀ b : Bool, (((if b = true then ",)" else ")" : String)) : Str).length ≤ 2 := by decide +kernel
  have e3 := e2 ((PyData.shownAll (strsD l)).length == 1)
  rw [e1]
  refine Nat.le_trans (show _ ≤ 60000 by omega) (by decide)
theorem data_txs {K : PySem.W.Frag} {H : Hp} {a : Addr} {l : List Str} (e : H a = some (.tup (txs l))) : Tg.Data K H (.ref a) (.tuple (strsD l)) := .flat (.tup (SqT.of e) (all_strs K H l)) (nodict_all l)
theorem shaped_txs {l : List Str} (h : ∀ z ∈ l, ∀ c ∈ cds z, c < 128) : SeqAt.shaped (.tuple (strsD l)) = true := shaped_tup fun d hd => by
  obtain ⟨z, hz, rfl⟩ := List.mem_map.mp hd
  refine ⟨?_, Nat.zero_le _⟩
  show z.cps.all (· < 0x110000) = true
  rw [Array.all_eq_true_iff_forall_mem]
  intro c hc
  have := h z hz c (Array.mem_toList_iff.mpr hc)
  exact decide_eq_true (by omega)
theorem chk8 : ∀ sg ∈ sgs, ∀ n ∈ List.range 6, (leadsP sg n).all (fun z => (cds z).all fun c => decide (c < 128)) = true := by decide +kernel
theorem lead_plain {sg : Str} (h : Signs sg) {n : Nat} (hn : n ≤ 5) : ∀ z ∈ leadsP sg n, ∀ c ∈ cds z, c < 128 := fun z hz c hc =>
  of_decide_eq_true (List.all_eq_true.mp (List.all_eq_true.mp (chk8 sg (in_sgs h) n (in_n hn)) z hz) c hc)
/-- two written arguments and one by keyword -/
def two1 {α : Type} : List α → List α → List α
  | [a, b], [c] => [a, b, c]
  | _, _ => []
/-- free_patterns, found under its name, with its binding -/
structure DfF (K : PySem.W.Frag) (mg : Str → Option Value) (f : Addr) (fd : FuncData) : Prop where
  F : Fun K "free_patterns" "free_patterns" sFree f fd
  m : mg "free_patterns" = some (.ref f)
  bK : KBinds K fd ["letters", "depth", "prime"] ["prime"] two1 two1
  bD : Binds K fd ["letters", "depth", "prime"] [Value.none]
theorem read_deep {σ : L2.St} {H : Hp} {sg : Str} {d : Int} {R : V → Hp → Prop} (h1 : σ[1]? = some (some (.str sg))) (h2 : σ[2]? = some (some (.int d))) (hs : sg.length ≤ 3) (d1 : 1 ≤ d) (d5 : d ≤ 5) (h : ∀ n : Nat, 1 ≤ n → n ≤ 5 → R (.int n) H) :
    tIf (tTest (tOp (rI0 fun i j => V.bl (decide (i < j))) (tCB (fun xs H Q => ∃ z, xs = [V.str z] ∧ z.length ≤ sizeLine ∧ Q (V.int (z.length : Nat)) H) (tCons (tVar 1) tNil)) (tC (V.int 3)))) (tVar 2)
      (tCB (fun xs H Q => ∃ i j, xs = [V.int i, V.int j] ∧ Q (V.int (if j < i then j else i)) H) (tCons (tVar 2) (tCons (tC (V.int 4)) tNil))) σ H R := by
  refine ⟨_, h1, sg, rfl, Nat.le_trans hs (by decide), _, _, rfl, rfl, _, rfl, ?_⟩
  obtain ⟨n, rfl⟩ := Int.eq_ofNat_of_zero_le (show 0 ≤ d by omega)
  refine ite2 (fun _ => ⟨_, h2, h n (by omega) (by omega)⟩) (fun _ => ⟨_, h2, _, _, rfl, ?_⟩)
  split
  · exact h 4 (by decide) (by decide)
  · exact h n (by omega) (by omega)
abbrev nRight : List Str := ["_law_cup_here", "_law_signs_here", "_law_deep", "_law_kind_here", "_law_told"]
section
variable {P : Program} {w : World} {K : PySem.W.Frag} {mg : Str → Option Value} {base : Heap}
/-- what the law's judge calls -/
structure Calls9 (P : Program) (w : World) (K : PySem.W.Frag) (mg : Str → Option Value) (base : Heap) (fSg fBi fKi fF fLF fPR fLa fSR : Addr) (dSg dBi dKi dF dLF dPR dLa dSR : FuncData) : Prop where
  sg : FnOk P w K mg base CX0 3 fSg dSg ["_law_cup_here"] spSigns
  bi : FnOk P w K mg base CX0 1 fBi dBi ["_law_cup_here", "_law_much"] spBit
  ki : FnOk P w K mg base CX0 3 fKi dKi ["_law_cup_here"] spKind
  fr : FnOk P w K mg base CX0 5 fF dF ["letters", "depth", "prime"] spFree
  lf : FnOk P w K mg base CX0 3 fLF dLF ["_law_signs_here", "_law_deep", "_law_kind_here"] spLawFree
  pr : FnOk P w K mg base CX0 5 fPR dPR ["_law_signs_here", "_law_deep", "_law_kind_here", "_law_told"] spPowRight
  la : FnOk P w K mg base CX0 2 fLa dLa ["_law_signs_here", "_law_deep"] spLeaders
  sr : FnOk P w K mg base CX0 5 fSR dSR ["_law_signs_here", "_law_much"] spSumRight
  DSg : Df K mg "_law_signs" sSigns ["_law_cup_here"] fSg dSg
  DBi : Df K mg "_law_bit" sBit ["_law_cup_here", "_law_much"] fBi dBi
  DKi : Df K mg "_law_kind" sKind ["_law_cup_here"] fKi dKi
  DF : DfF K mg fF dF
  DLF : Df K mg "_law_free" sLawFree ["_law_signs_here", "_law_deep", "_law_kind_here"] fLF dLF
  DPR : Df K mg "_law_powers_right" sPowRight ["_law_signs_here", "_law_deep", "_law_kind_here", "_law_told"] fPR dPR
  DLa : Df K mg "_law_leaders" sLeaders ["_law_signs_here", "_law_deep"] fLa dLa
  DSR : Df K mg "_law_sum_right" sSumRight ["_law_signs_here", "_law_much"] fSR dSR
def spRight : Sp := fun vs H Q _ => ∃ (c : Addr), vs = [.ref c] ∧ Cup H c ∧ ∀ H', Cup H' c → But c H H' → Q (.bl true) H'
theorem scRight : FnScope nRight ["_law_cup_here"] (defScope sRight) := ⟨rfl, rfl, rfl, by decide +kernel, rfl, by decide +kernel, by decide +kernel⟩
theorem big5 {m : Int} (h : m = 5 ∨ m = 12 ∨ m = 60) : 0 < m ∧ m.natAbs < 2 ^ 9000 := by
  have : (2 : Nat) ^ 7 ≤ 2 ^ 9000 := Nat.pow_le_pow_right (by decide) (by decide)
  generalize (2 ^ 9000 : Nat) = M at this ⊢
  rcases h with rfl | rfl | rfl <;> exact ⟨by decide, by show _ < _; omega⟩
theorem ok_right {f fSg fBi fKi fF fLF fPR fLa fSR : Addr} {fd dSg dBi dKi dF dLF dPR dLa dSR : FuncData} (F : Fun K "_law_right" "_law_right" sRight f fd) (T : Txt K mg) (G : Calls9 P w K mg base fSg fBi fKi fF fLF fPR fLa fSR dSg dBi dKi dF dLF dPR dLa dSR) :
    Kept P w K mg base CX0 6 f fd ["_law_cup_here"] spRight := by
  refine Kept.fn F scRight (fun vs H Q E h => ?_) (fun cdv A outer s H vs Q E hr still h => ?_)
  · obtain ⟨c, rfl, _⟩ := h
    rfl
  · obtain ⟨c, rfl, hc, q⟩ := h
    have r1 : Room 1 _ := hr.mono (by decide)
    have r2 : Room 2 _ := hr.mono (by decide)
    have r3 : Room 3 _ := hr.mono (by decide)
    refine ⟨_, pss_cons (ps_par3 (i := 1) (j := 2) (l := 3) (by rfl) scRight.nd rfl rfl rfl (by decide) (by decide) (by decide) rfl rfl rfl
        (pa_cons (pe_call G.sg r3 (by rfl) G.DSg.m G.DSg.F.kp G.DSg.b .nil pass0 (pa_cons (pv 0) pa_nil)) (pa_cons (pe_op op_add pe_int (pe_call G.bi r1 (by rfl) G.DBi.m G.DBi.F.kp G.DBi.b .nil pass0 (pa_cons (pv 0) (pa_cons pe_int pa_nil))))
          (pa_cons (pe_call G.ki r3 (by rfl) G.DKi.m G.DKi.F.kp G.DKi.b .nil pass0 (pa_cons (pv 0) pa_nil)) pa_nil))) (by rfl))
      (pss_cons (ps_set (i := 2) scRight.nd rfl (Or.inl rfl) (pe_ifExp (pt_cmpR op_lt (pe_callB call_len_str (by rfl) T.len PySem.boot_len (pa_cons (pv 1) pa_nil)) pe_int (nomark _)) (pv 2)
          (pe_callB (call_min2 rfl) (by rfl) T.min (by decide +kernel) (pa_cons (pv 2) (pa_cons pe_int pa_nil)))))
      (pss_cons (ps_set (i := 4) scRight.nd rfl (Or.inl rfl) (pe_callK G.fr hr (by rfl) G.DF.m G.DF.F.kp G.DF.bK pass0 (pa_cons (pv 1) (pa_cons (pv 2) pa_nil)) (pk_cons (pv 3) pk_nil)))
      (pss_cons (ps_if (PW.pt (pw_or (pt_cmpR op_ne (pe_callB (call_show still hr.units) (by rfl) T.repr (by decide +kernel) (pa_cons (pv 4) pa_nil))
            (pe_callB (call_show still hr.units) (by rfl) T.repr (by decide +kernel) (pa_cons (pe_callTy call_tuple_of (by rfl) T.tuple (by decide +kernel)
              (pa_cons (pe_call G.lf r3 (by rfl) G.DLF.m G.DLF.F.kp G.DLF.b .nil pass0 (pa_cons (pv 1) (pa_cons (pv 2) (pa_cons (pv 3) pa_nil)))) pa_nil)) pa_nil)) (nomark _))
          (pw_or1 (pt_not (pt_val (pe_call G.pr hr (by rfl) G.DPR.m G.DPR.F.kp G.DPR.b .nil pass0 (pa_cons (pv 1) (pa_cons (pv 2) (pa_cons (pv 3) (pa_cons (pv 4) pa_nil))))))))))
        (pss_one (ps_ret pe_bl)) pss_nil)
      (pss_cons (ps_if (pt_cmpR (op_neD hr.units) (pe_call (dvs := [V.non]) G.fr hr (by rfl) G.DF.m G.DF.F.kp G.DF.bD (.cons rfl .nil) pass0 (pa_cons (pv 1) (pa_cons (pv 2) pa_nil)))
          (pe_callTy call_tuple_of (by rfl) T.tuple (by decide +kernel) (pa_cons (pe_call G.la r2 (by rfl) G.DLa.m G.DLa.F.kp G.DLa.b .nil pass0 (pa_cons (pv 1) (pa_cons (pv 2) pa_nil))) pa_nil)) (nomark _))
        (pss_one (ps_ret pe_bl)) pss_nil)
      (pss_one (ps_ret (pe_and (pe_call G.sr hr (by rfl) G.DSR.m G.DSR.F.kp G.DSR.b .nil pass0 (pa_cons (pv 1) (pa_cons (pe_op op_add pe_int (pe_call G.bi r1 (by rfl) G.DBi.m G.DBi.F.kp G.DBi.b .nil pass0 (pa_cons (pv 0) (pa_cons pe_int pa_nil)))) pa_nil)))
        (pe_one (pe_call G.sr hr (by rfl) G.DSR.m G.DSR.F.kp G.DSR.b .nil pass0 (pa_cons (pv 1) (pa_cons (pe_op op_add pe_int (pe_call G.bi r1 (by rfl) G.DBi.m G.DBi.F.kp G.DBi.b .nil pass0 (pa_cons (pv 0) (pa_cons pe_int pa_nil)))) pa_nil))))))))))), ?_⟩
    refine ⟨_, rfl, c, rfl, hc, fun sg H1 hsg hc1 b1 => ?_⟩
    have hs3 := sg_short hsg
    refine ⟨_, rfl, c, 5, rfl, hc1, (big5 (.inl rfl)).1, (big5 (.inl rfl)).2, fun r H2 r0 r5 hc2 b2 => ?_⟩
    refine ⟨_, _, rfl, rfl, _, rfl, c, rfl, hc2, fun k H3 hk hc3 b3 => ?_⟩
    refine ⟨_, _, _, rfl, ?_⟩
    refine read_deep (sg := sg) (d := 1 + r) rfl rfl hs3 (by omega) (by omega) fun n n1 n5 => ?_
    have b03 := (b1.trans b2).trans b3
    refine ⟨_, rfl, _, rfl, _, rfl, sg, n, k, rfl, hsg, n1, n5, hk, fun p H4 np s4 e4 => ?_⟩
    have hc4 := hc3.same s4
    refine ⟨_, rfl, .ref p, _, rfl, data_txs e4, show_all _, ?_, shown_len (fun z hz => (free_mem hsg n5 hk hz).2) (free_len hsg n5), ?_⟩
    · show PyData.depthAll (strsD (freeP sg n k)) + 1 < 60
      rw [depth_all]
      decide
    refine ⟨_, rfl, _, rfl, _, rfl, sg, n, k, rfl, hsg, n5, hk, fun p5 H5 np5 s5 e5 => ?_⟩
    rw [law_free hsg n5 hk] at e5
    refine ⟨p5, _, rfl, .inl ⟨SqL.of e5, fun p6 np6 => ?_⟩⟩
    have s6 := same_upd (o := .tup (txs (freeP sg n k))) np6
    refine ⟨.ref p6, _, rfl, data_txs upd_same, show_all _, ?_, shown_len (fun z hz => (free_mem hsg n5 hk hz).2) (free_len hsg n5), ?_⟩
    · show PyData.depthAll (strsD (freeP sg n k)) + 1 < 60
      rw [depth_all]
      decide
    refine ⟨rfl, _, rfl, ?_⟩
    rw [decide_eq_true rfl]
    refine iteF ?_
    have e46 := s6 _ _ (s5 _ _ e4)
    have hc6 := (hc4.same s5).same s6
    have b6 := ((b03.trans (But.of s4)).trans (But.of s5)).trans (But.of s6)
    generalize upd H5 p6 (.tup (txs (freeP sg n k))) = H6 at e46 hc6 b6 ⊢
    have ll := free_len hsg n5 (k := k)
    refine ⟨_, rfl, _, rfl, _, rfl, _, rfl, sg, n, k, p, freeP sg n k, rfl, e46, hsg, n5, hk, by omega, fun z hz => (free_mem hsg n5 hk hz).1, fun m m1 m2 => free_count hsg n5 hk m m1 m2, fun H7 s7 => ?_⟩
    refine ⟨_, rfl, iteF ?_⟩
    refine ⟨_, rfl, _, rfl, sg, n, none, rfl, hsg, n1, n5, trivial, fun p8 H8 np8 s8 e8 => ?_⟩
    refine ⟨_, rfl, _, rfl, sg, n, rfl, hsg, n5, fun p9 H9 np9 s9 e9 => ?_⟩
    refine ⟨p9, _, rfl, .inl ⟨SqL.of e9, fun pa npa => ?_⟩⟩
    have sa := same_upd (o := .tup (txs (leadsP sg n))) npa
    have pl := lead_plain hsg n5
    refine ⟨.tuple (strsD (leadsP sg n)), .tuple (strsD (leadsP sg n)), .tup (SqT.of (sa _ _ (s9 _ _ e8))) (all_strs _ _ _), .tup (SqT.of upd_same) (all_strs _ _ _), shaped_txs pl, shaped_txs pl, _, rfl, ?_⟩
    have eq1 : PyData.eqv (.tuple (strsD (leadsP sg n))) (.tuple (strsD (leadsP sg n))) = true := eqv_self _
    rw [eq1]
    refine iteF ?_
    have sT := ((s7.trans s8).trans s9).trans sa
    have hca := hc6.same sT
    have ba := b6.trans (But.of sT)
    generalize upd H9 pa (.tup (txs (leadsP sg n))) = Ha at hca ba ⊢
    refine ⟨_, rfl, _, rfl, c, 12, rfl, hca, (big5 (.inr (.inl rfl))).1, (big5 (.inr (.inl rfl))).2, fun r2 Hb r20 r2m hcb bb => ?_⟩
    obtain ⟨m2, rfl⟩ := Int.eq_ofNat_of_zero_le r20
    refine ⟨_, _, rfl, rfl, ?_⟩
    have e2 : (1 : Int) + (m2 : Nat) = ((1 + m2 : Nat) : Int) := by omega
    refine ⟨sg, 1 + m2, by rw [← e2]; rfl, hsg, by omega, by omega, fun Hc sc => ?_⟩
    refine ⟨_, rfl, iteT ?_⟩
    have hcc := hcb.same sc
    refine ⟨_, rfl, _, rfl, c, 60, rfl, hcc, (big5 (.inr (.inr rfl))).1, (big5 (.inr (.inr rfl))).2, fun r3 Hd r30 r3m hcd bd => ?_⟩
    obtain ⟨m3, rfl⟩ := Int.eq_ofNat_of_zero_le r30
    refine ⟨_, _, rfl, rfl, ?_⟩
    have e3 : (1 : Int) + (m3 : Nat) = ((1 + m3 : Nat) : Int) := by omega
    refine ⟨sg, 1 + m3, by rw [← e3]; rfl, hsg, by omega, by omega, fun He se => ?_⟩
    exact q _ (hcd.same se) ((((ba.trans bb).trans (But.of sc)).trans bd).trans (But.of se))
end
end K9
set_option Elab.async false
set_option linter.all false
set_option maxRecDepth 100000
set_option maxHeartbeats 3200000
namespace K9
open PySem L2 Tx Tg Tm
abbrev six : List Nat := [1, 2, 3, 4, 5, 12]
theorem told_is : (six.map (hm 2)) ++ [hm 1 1, hm 1 9, hm 3 5] = [2, 1, 2, 3, 6, 335, 1, 0, 48] := by decide +kernel
def fr1 : List Str := ["a", "aaa"]
def fr2a : List Str := ["a", "b", "aa", "ab", "bb", "aab", "abb"]
def fr2b : List Str := ["aaaa", "aaab", "aabb", "abab", "abbb", "bbbb"]
theorem fr1_is : freeP "a" 5 (some 3) = fr1 := sort_is (List.isPerm_iff.mp (by decide +kernel)) (by decide +kernel)
theorem fr2_is : freeP "ab" 4 (some 2) = fr2a ++ fr2b := sort_is (List.isPerm_iff.mp (by decide +kernel)) (by decide +kernel)
theorem eqv_selfI : ∀ l : List Int, PyData.eqvAll (l.map PyData.int) (l.map PyData.int) = true
  | [] => rfl
  | c :: l => by
    show ((c == c) && PyData.eqvAll (l.map PyData.int) (l.map PyData.int)) = true
    rw [eqv_selfI l, beq_self_eq_true]
    rfl
abbrev nLaw : List Str := ["_law_script", "_law_at", "_law_cup_here", "_law_much", "_law_told"]
section
variable {P : Program} {w : World} {K : PySem.W.Frag} {mg : Str → Option Value} {base : Heap}
structure LawC (P : Program) (w : World) (K : PySem.W.Frag) (mg : Str → Option Value) (base : Heap) (fCu fRi fM fF : Addr) (dCu dRi dM dF : FuncData) : Prop where
  cu : FnOk P w K mg base CX0 1 fCu dCu ["_law_script", "_law_at"] (spCup K)
  ri : Kept P w K mg base CX0 6 fRi dRi ["_law_cup_here"] spRight
  ma : FnOk P w K mg base CX0 4 fM dM ["letters", "size"] spMany
  fr : FnOk P w K mg base CX0 5 fF dF ["letters", "depth", "prime"] spFree
  DCu : Df K mg "_law_cup" sCup ["_law_script", "_law_at"] fCu dCu
  DRi : Df K mg "_law_right" sRight ["_law_cup_here"] fRi dRi
  DM : Df K mg "how_many" sMany ["letters", "size"] fM dM
  DF : DfF K mg fF dF
def spLaw (K : PySem.W.Frag) : Sp := fun vs H Q _ => ∃ (a : Addr) (ns : List Int), vs = [.ref a] ∧ SqL K H a (ns.map V.int) ∧ ns.length ≤ 63 ∧ ∀ H', Q (.bl true) H'
theorem scLaw : FnScope nLaw ["_law_script"] (defScope sLaw) := ⟨rfl, rfl, rfl, by decide +kernel, rfl, by decide +kernel, by decide +kernel⟩
theorem ok_law {f fCu fRi fM fF : Addr} {fd dCu dRi dM dF : FuncData} (F : Fun K "law" "law" sLaw f fd) (T : Txt K mg) (G : LawC P w K mg base fCu fRi fM fF dCu dRi dM dF) : Kept P w K mg base CX0 7 f fd ["_law_script"] (spLaw K) := by
  refine Kept.fn F scLaw (fun vs H Q E h => ?_) (fun cdv A outer s H vs Q E hr still h => ?_)
  · obtain ⟨a, ns, rfl, _⟩ := h
    rfl
  · obtain ⟨a, ns, rfl, hS, hlen, q⟩ := h
    have r1 : Room 1 _ := hr.mono (by decide)
    have r4 : Room 4 _ := hr.mono (by decide)
    have r5 : Room 5 _ := hr.mono (by decide)
    refine ⟨_, pss_cons (ps_for PassesOwn.never rfl (pi_range1 rfl T.range (pa_cons (pe_callB (call_max2 rfl) (by rfl) T.max (by decide +kernel) (pa_cons pe_int (pa_cons (pe_callB (call_min2 rfl) (by rfl) T.min (by decide +kernel) (pa_cons pe_int (pa_cons
          (pe_callB call_len (by rfl) T.len PySem.boot_len (pa_cons (pv 0) pa_nil)) pa_nil))) pa_nil))) pa_nil)) (pg_name (i := 1) scLaw.nd rfl (Or.inl rfl))
        (pss_cons (ps_set (i := 2) scLaw.nd rfl (Or.inl rfl) (pe_call G.cu r1 (by rfl) G.DCu.m G.DCu.F.kp G.DCu.b .nil pass0 (pa_cons (pv 0) (pa_cons (pv 1) pa_nil))))
        (pss_one (ps_if (PW.pt (pw_or (pt_not (pt_val (pe_callG G.ri hr still (by rfl) G.DRi.m G.DRi.F.kp G.DRi.b .nil pass0 (pa_cons (pv 2) pa_nil))))
            (pw_or1 (pt_not (pt_val (pe_callG G.ri hr still (by rfl) G.DRi.m G.DRi.F.kp G.DRi.b .nil pass0 (pa_cons (pv 2) pa_nil))))))) (pss_one (ps_ret pe_bl)) pss_nil))))
      (pss_cons (ps_setLc (i := 4) (own := [("_law_much", 3)]) (g := gName 3) (tt := tYes) rfl scLaw.nd rfl rfl (by rfl)
          (pi_tup (pe_tup (pa_cons pe_int (pa_cons pe_int (pa_cons pe_int (pa_cons pe_int (pa_cons pe_int (pa_cons pe_int pa_nil))))))))
          (blkOk_by (own := [("_law_much", 3)]) (N := nLaw) (sc := defScope sLaw) (by decide +kernel)) (fun _ _ _ _ _ => pg_name (i := 3) scLaw.nd rfl (Or.inl rfl)) (fun _ _ _ _ _ => pts_nil)
          (fun _ _ _ _ _ => pe_call G.ma r4 (by rfl) G.DM.m G.DM.F.kp G.DM.b .nil pass0 (pa_cons pe_str (pa_cons (pv 3) pa_nil))))
      (pss_cons (ps_set (i := 4) scLaw.nd rfl (Or.inl rfl) (pe_op op_cat (pv 4) (pe_lst (pa_cons (pe_call G.ma r4 (by rfl) G.DM.m G.DM.F.kp G.DM.b .nil pass0 (pa_cons pe_str (pa_cons pe_int pa_nil)))
          (pa_cons (pe_call G.ma r4 (by rfl) G.DM.m G.DM.F.kp G.DM.b .nil pass0 (pa_cons pe_str (pa_cons pe_int pa_nil))) (pa_cons (pe_call G.ma r4 (by rfl) G.DM.m G.DM.F.kp G.DM.b .nil pass0 (pa_cons pe_str (pa_cons pe_int pa_nil))) pa_nil))))))
      (pss_cons (ps_if (PW.pt (pw_or (pt_cmpR (op_neD hr.units) (pv 4) (pe_lst (pa_cons pe_int (pa_cons pe_int (pa_cons pe_int (pa_cons pe_int (pa_cons pe_int (pa_cons pe_int (pa_cons pe_int (pa_cons pe_int (pa_cons pe_int pa_nil)))))))))) (nomark _))
            (pw_or1 (pt_cmpR (op_neD hr.units) (pe_callK G.fr r5 (by rfl) G.DF.m G.DF.F.kp G.DF.bK pass0 (pa_cons pe_str (pa_cons pe_int pa_nil)) (pk_cons pe_int pk_nil)) (pe_tup (pa_cons pe_str (pa_cons pe_str pa_nil))) (nomark _)))))
          (pss_one (ps_ret pe_bl)) pss_nil)
      (pss_one (ps_ret (pe_cmpR (op_eqD hr.units) (pe_callK G.fr r5 (by rfl) G.DF.m G.DF.F.kp G.DF.bK pass0 (pa_cons pe_str (pa_cons pe_int pa_nil)) (pk_cons pe_int pk_nil))
          (pe_op op_catT (pe_tup (pa_cons pe_str (pa_cons pe_str (pa_cons pe_str (pa_cons pe_str (pa_cons pe_str (pa_cons pe_str (pa_cons pe_str pa_nil))))))))
            (pe_tup (pa_cons pe_str (pa_cons pe_str (pa_cons pe_str (pa_cons pe_str (pa_cons pe_str (pa_cons pe_str pa_nil)))))))) (nomark _))))))), ?_⟩
    have bj : ∀ n : Int, 0 ≤ n → n ≤ 63 → (-(2 ^ 62) ≤ (if (if n < 3 then n else 3) > 1 then (if n < 3 then n else 3) else 1) ∧ (if (if n < 3 then n else 3) > 1 then (if n < 3 then n else 3) else 1) < 2 ^ 62) ∧ (if (if n < 3 then n else 3) > 1 then (if n < 3 then n else 3) else (1 : Int)).toNat ≤ 3 := by
      intro n h0 h1
      repeat' split
      all_goals omega
    obtain ⟨⟨bj1, bj2⟩, bj3⟩ := bj ns.length (by omega) (by omega)
    refine ⟨_, rfl, _, ns.length, rfl, .inl ⟨_, hS, by rw [List.length_map]⟩, _, _, rfl, _, _, rfl, _, rfl, bj1, bj2, for_range (n := _) (fun i σ H1 => ∃ u1 u2 : Option V, σ = [some (.ref a), u1, u2, none, none] ∧ Same H H1)
      ⟨none, none, rfl, Same.refl H⟩ ?_ ?_⟩
    · rintro k σ H1 hk ⟨u1, u2, rfl, s1⟩
      have hk3 : k < 3 := Nat.lt_of_lt_of_le hk bj3
      refine ⟨_, rfl, _, rfl, a, ns, k, congrArg (fun z => [V.ref a, V.int z]) (Int.zero_add _), s1.seq hS, hlen, by omega, fun c H2 nc s2 hc2 => ?_⟩
      refine ⟨_, rfl, c, rfl, hc2, fun H3 hc3 b3 => ⟨_, rfl, iteF ?_⟩⟩
      refine ⟨_, rfl, c, rfl, hc3, fun H4 hc4 b4 => ⟨_, rfl, iteF ?_⟩⟩
      exact ⟨_, _, rfl, fun b o e => b4 _ _ (ne_of_none (s1 _ _ e) nc) (b3 _ _ (ne_of_none (s1 _ _ e) nc) (s2 _ _ (s1 _ _ e)))⟩
    · rintro σ H1 ⟨u1, u2, rfl, s1⟩
      have sab : Signs "ab" := .inl rfl
      have sa : Signs "a" := .inr (.inr (.inl rfl))
      have sabc : Signs "abc" := .inr (.inr (.inr rfl))
      have l2 : ("ab" : Str).length = 2 := by decide +kernel
      have l1 : ("a" : Str).length = 1 := by decide +kernel
      have l3 : ("abc" : Str).length = 3 := by decide +kernel
      refine ⟨by show 6 ≤ sizeLine; decide, fun pt npt => ?_⟩
      have et : (upd H1 pt (.tup [.int 1, .int 2, .int 3, .int 4, .int 5, .int 12])) pt = some (.tup (nats six)) := upd_same
      generalize upd H1 pt (.tup [.int 1, .int 2, .int 3, .int 4, .int 5, .int 12]) = H2 at et ⊢
      refine ⟨pt, rfl, ⟨_, SqT.of et⟩, fun D hD => ?_⟩
      refine lc_tup (xs := nats six) (fun i H3 => Same H2 H3 ∧ H3 D = some (.lst (((six.take i).map (hm 2)).map V.int))) ⟨same_upd hD, upd_same⟩ (fun i H3 _ z => SqT.of (z.1 _ _ et)) ?_ ?_
      · rintro i x H3 hx ⟨s3, e3⟩
        rw [List.getElem?_map] at hx
        obtain ⟨m, hm', rfl⟩ := Option.map_eq_some_iff.mp hx
        have hmem := List.mem_of_getElem? hm'
        have m1 : 1 ≤ m ∧ m ≤ 60 := by
          simp only [List.mem_cons, List.not_mem_nil, or_false] at hmem
          rcases hmem with rfl | rfl | rfl | rfl | rfl | rfl <;> decide
        refine ⟨rfl, iteT (B := Same H2 H3 ∧ H3 D = some (.lst (((six.take (i + 1)).map (hm 2)).map V.int))) ?_⟩
        refine ⟨_, rfl, "ab", m, rfl, sab, m1.1, m1.2, fun H4 s4 => ?_⟩
        refine ⟨_, s4 _ _ e3, ?_, same_put (s3.trans s4) hD, ?_⟩
        · rw [List.length_map, List.length_map, List.length_take]
          exact Nat.lt_of_le_of_lt (show _ ≤ 6 from Nat.min_le_right _ _) (by decide)
        · rw [upd_same, List.take_add_one, hm', List.map_append, List.map_append, l2]
          rfl
      · rintro H3 ⟨s3, e3⟩
        have em : six.take (nats six).length = six := rfl
        rw [em] at e3
        refine ⟨_, rfl, "a", 1, rfl, sa, by decide, by decide, fun H4 s4 => ?_⟩
        refine ⟨"a", 9, rfl, sa, by decide, by decide, fun H5 s5 => ?_⟩
        refine ⟨"abc", 5, rfl, sabc, by decide, by decide, fun H6 s6 => ?_⟩
        rw [l1, l3]
        refine ⟨by show 3 ≤ sizeLine; decide, fun p7 n7 => ?_⟩
        have s7 := same_upd (o := .lst [.int (hm 1 1), .int (hm 1 9), .int (hm 3 5)]) n7
        have e7 := s7 _ _ (s6 _ _ (s5 _ _ (s4 _ _ e3)))
        refine ⟨D, p7, _, _, rfl, rfl, e7, upd_same, by show 9 ≤ sizeLine; decide, fun p8 n8 => ?_⟩
        have ek : (six.map (hm 2)).map V.int ++ [.int (hm 1 1), .int (hm 1 9), .int (hm 3 5)] = ([2, 1, 2, 3, 6, 335, 1, 0, 48] : List Int).map V.int := by
          rw [← told_is, List.map_append]
          rfl
        rw [ek]
        have e8 : (upd (upd H6 p7 (.lst [.int (hm 1 1), .int (hm 1 9), .int (hm 3 5)])) p8 (.lst (([2, 1, 2, 3, 6, 335, 1, 0, 48] : List Int).map V.int))) p8 = some (.lst (([2, 1, 2, 3, 6, 335, 1, 0, 48] : List Int).map V.int)) := upd_same
        generalize upd (upd H6 p7 (.lst [.int (hm 1 1), .int (hm 1 9), .int (hm 3 5)])) p8 (.lst (([2, 1, 2, 3, 6, 335, 1, 0, 48] : List Int).map V.int)) = H8 at e8 ⊢
        refine ⟨_, rfl, by show 9 ≤ sizeLine; decide, fun p9 n9 => ?_⟩
        have s9 := same_upd (o := .lst (([2, 1, 2, 3, 6, 335, 1, 0, 48] : List Int).map V.int)) n9
        refine ⟨_, _, .lst (SqL.of (s9 _ _ e8)) (all_ints K _ [2, 1, 2, 3, 6, 335, 1, 0, 48]), .lst (SqL.of upd_same) (all_ints K _ [2, 1, 2, 3, 6, 335, 1, 0, 48]), shaped_ints _, shaped_ints _, _, rfl, ?_⟩
        have eqL : PyData.eqv (.list (([2, 1, 2, 3, 6, 335, 1, 0, 48] : List Int).map PyData.int)) (.list (([2, 1, 2, 3, 6, 335, 1, 0, 48] : List Int).map PyData.int)) = true := eqv_selfI _
        rw [eqL]
        refine iteF ?_
        refine ⟨"a", 5, some 3, rfl, sa, by decide, by decide, .inr (.inl rfl), fun pa Ha npa sHa ea => ?_⟩
        rw [fr1_is] at ea
        refine ⟨by show 2 ≤ sizeLine; decide, fun pb npb => ?_⟩
        have sb := same_upd (o := .tup [.str "a", .str "aaa"]) npb
        have pl : ∀ l : List Str, (l.all fun z => (cds z).all fun c => decide (c < 128)) = true → ∀ z ∈ l, ∀ c ∈ cds z, c < 128 := fun l h z hz c hc => of_decide_eq_true (List.all_eq_true.mp (List.all_eq_true.mp h z hz) c hc)
        refine ⟨_, _, .tup (SqT.of (sb _ _ ea)) (all_strs K _ fr1), .tup (SqT.of upd_same) (all_strs K _ fr1), shaped_txs (pl fr1 (by decide +kernel)), shaped_txs (pl fr1 (by decide +kernel)), _, rfl, ?_⟩
        have eqT : PyData.eqv (.tuple (strsD fr1)) (.tuple (strsD fr1)) = true := eqv_self _
        rw [eqT]
        refine iteF ?_
        refine ⟨"ab", 4, some 2, rfl, sab, by decide, by decide, .inl rfl, fun pc Hc npc sc ec => ?_⟩
        rw [fr2_is] at ec
        refine ⟨by show 7 ≤ sizeLine; decide, fun pd npd => ⟨by show 6 ≤ sizeLine; decide, fun pe npe => ?_⟩⟩
        have sd := same_upd (o := .tup (txs fr2a)) npd
        have se := same_upd (o := .tup (txs fr2b)) npe
        refine ⟨pd, pe, txs fr2a, txs fr2b, rfl, rfl, SqT.of (se _ _ upd_same), SqT.of upd_same, by simp [fr2a], by show 13 ≤ sizeLine; decide, fun z => by simp [fr2b] at z, fun _ pf npf => ?_⟩
        have sf := same_upd (o := .tup (txs (fr2a ++ fr2b))) npf
        have ecf := sf _ _ (se _ _ (sd _ _ ec))
        refine ⟨_, _, .tup (SqT.of ecf) (all_strs K _ (fr2a ++ fr2b)), .tup (SqT.of upd_same) (all_strs K _ (fr2a ++ fr2b)), shaped_txs (pl (fr2a ++ fr2b) (by decide +kernel)), shaped_txs (pl (fr2a ++ fr2b) (by decide +kernel)), ?_⟩
        have eqU : PyData.eqv (.tuple (strsD (fr2a ++ fr2b))) (.tuple (strsD (fr2a ++ fr2b))) = true := eqv_self _
        rw [eqU]
        exact q _
end
end K9
set_option Elab.async false
set_option linter.all false
set_option maxRecDepth 100000
set_option maxHeartbeats 3200000
namespace K9
open PySem L2 Tx Tg Tm
theorem df_mk {K : PySem.W.Frag} {h : Heap} {mg : Str → Option Value} {x : Str} {st : Stmt} {ps : List Str} {f : Addr} {oc kV dc pm cd ct : Value} {od an : Option Addr} {sl : Array (Option Value)} (X : K.In h) (G : h.Ns mainGlobals mg)
    (a : PySem.W.nsIn K mainGlobals x = some (some (.ref f))) (l : K.lookup f = some ⟨oc, od, .func (PySem.W.fnOf x x (defArgs st) (defBody st) (defScope st) .none kV dc pm an cd ct), sl⟩)
    (c : PySem.W.codeIn K cd x = true) (k : PySem.W.keepIn K (.ref f) = true)
    (hb : ∀ (kV doc pm : Value) (an : Option Addr) (cdv ct : Value) (us : List Value), us.length = ps.length → bindArgs (PySem.W.fnOf x x (defArgs st) (defBody st) (defScope st) .none kV doc pm an cdv ct) ⟨us, []⟩ = pure (ps.zip us)) :
    Df K mg x st ps f (PySem.W.fnOf x x (defArgs st) (defBody st) (defScope st) .none kV dc pm an cd ct) :=
  have F := fun_mk (st := st) l c k
  ⟨F, PySem.W.mg_of X G a, F.binds hb⟩
theorem dff_mk {K : PySem.W.Frag} {h : Heap} {mg : Str → Option Value} {f D : Addr} {oc dc pm cd ct : Value} {od an : Option Addr} {sl : Array (Option Value)} (X : K.In h) (G : h.Ns mainGlobals mg)
    (a : PySem.W.nsIn K mainGlobals "free_patterns" = some (some (.ref f))) (l : K.lookup f = some ⟨oc, od, .func (PySem.W.fnOf "free_patterns" "free_patterns" (defArgs sFree) (defBody sFree) (defScope sFree) .none (.ref D) dc pm an cd ct), sl⟩)
    (c : PySem.W.codeIn K cd "free_patterns" = true) (k : PySem.W.keepIn K (.ref f) = true) (kd : PySem.W.nsIn K D "prime" = some (some .none)) :
    DfF K mg f (PySem.W.fnOf "free_patterns" "free_patterns" (defArgs sFree) (defBody sFree) (defScope sFree) .none (.ref D) dc pm an cd ct) := by
  have F := fun_mk (st := sFree) l c k
  refine ⟨F, PySem.W.mg_of X G a, ⟨fun s us ws _ hl => ?_, fun r rz => ?_⟩, ?_⟩
  · match us, ws, hl with
    | [u1, u2], [w1], _ => exact .of_eq rfl
  · cases r with
    | nil => exact .nil
    | cons r1 r =>
      cases r with
      | nil => exact .nil
      | cons r2 r =>
        cases r with
        | cons _ _ => exact .nil
        | nil =>
          cases rz with
          | nil => exact .nil
          | cons r3 rz =>
            cases rz with
            | nil => exact .cons r1 (.cons r2 (.cons r3 .nil))
            | cons _ _ => exact .nil
  · have FD : FunD K "free_patterns" "free_patterns" (defArgs sFree) (defBody sFree) (defScope sFree) [] [("prime", V.non)] f (PySem.W.fnOf "free_patterns" "free_patterns" (defArgs sFree) (defBody sFree) (defScope sFree) .none (.ref D) dc pm an cd ct) :=
      ⟨⟨oc, od, .none, .ref D, dc, pm, an, cd, ct, sl, rfl, l, c, .inl ⟨rfl, rfl⟩, .inr ⟨D, rfl, fun q hq => by
        rw [List.mem_singleton.mp hq]
        exact ⟨.none, kd, rfl⟩⟩⟩, k⟩
    obtain ⟨ds, r, b⟩ := FD.binds0 (ps := ["letters", "depth", "prime"]) 2 (by simp) rfl (fun D doc pm an cdv ct us ks h1 h2 => by
      match us, ks, h1, h2 with
      | [u1, u2], [k1], _, _ => exact ⟨_, _, _, _, _, _, rfl, rfl, rfl⟩)
    cases r with
    | cons r1 r =>
      cases r
      cases r1
      exact b
theorem all_mk {l : PySem.W.OpenLaw} {w : World} {K : PySem.W.Frag} {h : Heap} {mg : Str → Option Value} {fa pp : Addr} (X : K.In h) (G : h.Ns mainGlobals mg) (hfa : mg "law" = some (.ref fa))
    (hx : ∃ n t, n = 10 ^ 200 ∧ mg "LEAST_TOO_LONG" = some (.int n t))
    {f1 : Addr} {od1 an1 : Option Addr} {sl1 : Array (Option Value)} {oc1 kV1 dc1 pm1 cd1 ct1 : Value}
    (a1 : PySem.W.nsIn K mainGlobals "is_integer" = some (some (.ref f1))) (l1 : K.lookup f1 = some ⟨oc1, od1, .func (PySem.W.fnOf "is_integer" "is_integer" (defArgs sInt) (defBody sInt) (defScope sInt) .none kV1 dc1 pm1 an1 cd1 ct1), sl1⟩) (c1 : PySem.W.codeIn K cd1 "is_integer" = true) (k1 : PySem.W.keepIn K (.ref f1) = true)
    {f2 : Addr} {od2 an2 : Option Addr} {sl2 : Array (Option Value)} {oc2 kV2 dc2 pm2 cd2 ct2 : Value}
    (a2 : PySem.W.nsIn K mainGlobals "is_letters" = some (some (.ref f2))) (l2 : K.lookup f2 = some ⟨oc2, od2, .func (PySem.W.fnOf "is_letters" "is_letters" (defArgs sLetters) (defBody sLetters) (defScope sLetters) .none kV2 dc2 pm2 an2 cd2 ct2), sl2⟩) (c2 : PySem.W.codeIn K cd2 "is_letters" = true) (k2 : PySem.W.keepIn K (.ref f2) = true)
    {f3 : Addr} {od3 an3 : Option Addr} {sl3 : Array (Option Value)} {oc3 kV3 dc3 pm3 cd3 ct3 : Value}
    (a3 : PySem.W.nsIn K mainGlobals "is_prime" = some (some (.ref f3))) (l3 : K.lookup f3 = some ⟨oc3, od3, .func (PySem.W.fnOf "is_prime" "is_prime" (defArgs sPrime) (defBody sPrime) (defScope sPrime) .none kV3 dc3 pm3 an3 cd3 ct3), sl3⟩) (c3 : PySem.W.codeIn K cd3 "is_prime" = true) (k3 : PySem.W.keepIn K (.ref f3) = true)
    {f4 : Addr} {od4 an4 : Option Addr} {sl4 : Array (Option Value)} {oc4 kV4 dc4 pm4 cd4 ct4 : Value}
    (a4 : PySem.W.nsIn K mainGlobals "check_letters" = some (some (.ref f4))) (l4 : K.lookup f4 = some ⟨oc4, od4, .func (PySem.W.fnOf "check_letters" "check_letters" (defArgs sCheck) (defBody sCheck) (defScope sCheck) .none kV4 dc4 pm4 an4 cd4 ct4), sl4⟩) (c4 : PySem.W.codeIn K cd4 "check_letters" = true) (k4 : PySem.W.keepIn K (.ref f4) = true)
    {f5 : Addr} {od5 an5 : Option Addr} {sl5 : Array (Option Value)} {oc5 kV5 dc5 pm5 cd5 ct5 : Value}
    (a5 : PySem.W.nsIn K mainGlobals "has_only" = some (some (.ref f5))) (l5 : K.lookup f5 = some ⟨oc5, od5, .func (PySem.W.fnOf "has_only" "has_only" (defArgs sHas) (defBody sHas) (defScope sHas) .none kV5 dc5 pm5 an5 cd5 ct5), sl5⟩) (c5 : PySem.W.codeIn K cd5 "has_only" = true) (k5 : PySem.W.keepIn K (.ref f5) = true)
    {f6 : Addr} {od6 an6 : Option Addr} {sl6 : Array (Option Value)} {oc6 kV6 dc6 pm6 cd6 ct6 : Value}
    (a6 : PySem.W.nsIn K mainGlobals "check_between" = some (some (.ref f6))) (l6 : K.lookup f6 = some ⟨oc6, od6, .func (PySem.W.fnOf "check_between" "check_between" (defArgs sBetween) (defBody sBetween) (defScope sBetween) .none kV6 dc6 pm6 an6 cd6 ct6), sl6⟩) (c6 : PySem.W.codeIn K cd6 "check_between" = true) (k6 : PySem.W.keepIn K (.ref f6) = true)
    {f7 : Addr} {od7 an7 : Option Addr} {sl7 : Array (Option Value)} {oc7 kV7 dc7 pm7 cd7 ct7 : Value}
    (a7 : PySem.W.nsIn K mainGlobals "check_prime" = some (some (.ref f7))) (l7 : K.lookup f7 = some ⟨oc7, od7, .func (PySem.W.fnOf "check_prime" "check_prime" (defArgs sCheckPrime) (defBody sCheckPrime) (defScope sCheckPrime) .none kV7 dc7 pm7 an7 cd7 ct7), sl7⟩) (c7 : PySem.W.codeIn K cd7 "check_prime" = true) (k7 : PySem.W.keepIn K (.ref f7) = true)
    {f8 : Addr} {od8 an8 : Option Addr} {sl8 : Array (Option Value)} {oc8 kV8 dc8 pm8 cd8 ct8 : Value}
    (a8 : PySem.W.nsIn K mainGlobals "check_some_prime" = some (some (.ref f8))) (l8 : K.lookup f8 = some ⟨oc8, od8, .func (PySem.W.fnOf "check_some_prime" "check_some_prime" (defArgs sSomePrime) (defBody sSomePrime) (defScope sSomePrime) .none kV8 dc8 pm8 an8 cd8 ct8), sl8⟩) (c8 : PySem.W.codeIn K cd8 "check_some_prime" = true) (k8 : PySem.W.keepIn K (.ref f8) = true)
    {f9 : Addr} {od9 an9 : Option Addr} {sl9 : Array (Option Value)} {oc9 kV9 dc9 pm9 cd9 ct9 : Value}
    (a9 : PySem.W.nsIn K mainGlobals "text_order" = some (some (.ref f9))) (l9 : K.lookup f9 = some ⟨oc9, od9, .func (PySem.W.fnOf "text_order" "text_order" (defArgs sOrder) (defBody sOrder) (defScope sOrder) .none kV9 dc9 pm9 an9 cd9 ct9), sl9⟩) (c9 : PySem.W.codeIn K cd9 "text_order" = true) (k9 : PySem.W.keepIn K (.ref f9) = true)
    {f10 : Addr} {od10 an10 : Option Addr} {sl10 : Array (Option Value)} {oc10 kV10 dc10 pm10 cd10 ct10 : Value}
    (a10 : PySem.W.nsIn K mainGlobals "all_texts" = some (some (.ref f10))) (l10 : K.lookup f10 = some ⟨oc10, od10, .func (PySem.W.fnOf "all_texts" "all_texts" (defArgs sTexts) (defBody sTexts) (defScope sTexts) .none kV10 dc10 pm10 an10 cd10 ct10), sl10⟩) (c10 : PySem.W.codeIn K cd10 "all_texts" = true) (k10 : PySem.W.keepIn K (.ref f10) = true)
    {f11 : Addr} {od11 an11 : Option Addr} {sl11 : Array (Option Value)} {oc11 kV11 dc11 pm11 cd11 ct11 : Value}
    (a11 : PySem.W.nsIn K mainGlobals "is_least_end" = some (some (.ref f11))) (l11 : K.lookup f11 = some ⟨oc11, od11, .func (PySem.W.fnOf "is_least_end" "is_least_end" (defArgs sLeast) (defBody sLeast) (defScope sLeast) .none kV11 dc11 pm11 an11 cd11 ct11), sl11⟩) (c11 : PySem.W.codeIn K cd11 "is_least_end" = true) (k11 : PySem.W.keepIn K (.ref f11) = true)
    {f12 : Addr} {od12 an12 : Option Addr} {sl12 : Array (Option Value)} {oc12 kV12 dc12 pm12 cd12 ct12 : Value}
    (a12 : PySem.W.nsIn K mainGlobals "leading_powers" = some (some (.ref f12))) (l12 : K.lookup f12 = some ⟨oc12, od12, .func (PySem.W.fnOf "leading_powers" "leading_powers" (defArgs sLeadPow) (defBody sLeadPow) (defScope sLeadPow) .none kV12 dc12 pm12 an12 cd12 ct12), sl12⟩) (c12 : PySem.W.codeIn K cd12 "leading_powers" = true) (k12 : PySem.W.keepIn K (.ref f12) = true)
    {f13 : Addr} {od13 an13 : Option Addr} {sl13 : Array (Option Value)} {oc13 kV13 dc13 pm13 cd13 ct13 : Value}
    (a13 : PySem.W.nsIn K mainGlobals "how_many" = some (some (.ref f13))) (l13 : K.lookup f13 = some ⟨oc13, od13, .func (PySem.W.fnOf "how_many" "how_many" (defArgs sMany) (defBody sMany) (defScope sMany) .none kV13 dc13 pm13 an13 cd13 ct13), sl13⟩) (c13 : PySem.W.codeIn K cd13 "how_many" = true) (k13 : PySem.W.keepIn K (.ref f13) = true)
    {f14 : Addr} {od14 an14 : Option Addr} {sl14 : Array (Option Value)} {oc14 kV14 dc14 pm14 cd14 ct14 : Value}
    (a14 : PySem.W.nsIn K mainGlobals "divisor_sign" = some (some (.ref f14))) (l14 : K.lookup f14 = some ⟨oc14, od14, .func (PySem.W.fnOf "divisor_sign" "divisor_sign" (defArgs sDivSign) (defBody sDivSign) (defScope sDivSign) .none kV14 dc14 pm14 an14 cd14 ct14), sl14⟩) (c14 : PySem.W.codeIn K cd14 "divisor_sign" = true) (k14 : PySem.W.keepIn K (.ref f14) = true)
    {f15 : Addr} {od15 an15 : Option Addr} {sl15 : Array (Option Value)} {oc15 kV15 dc15 pm15 cd15 ct15 : Value}
    (a15 : PySem.W.nsIn K mainGlobals "power_of" = some (some (.ref f15))) (l15 : K.lookup f15 = some ⟨oc15, od15, .func (PySem.W.fnOf "power_of" "power_of" (defArgs sPow) (defBody sPow) (defScope sPow) .none kV15 dc15 pm15 an15 cd15 ct15), sl15⟩) (c15 : PySem.W.codeIn K cd15 "power_of" = true) (k15 : PySem.W.keepIn K (.ref f15) = true)
    {f16 : Addr} {od16 an16 : Option Addr} {sl16 : Array (Option Value)} {oc16 kV16 dc16 pm16 cd16 ct16 : Value}
    (a16 : PySem.W.nsIn K mainGlobals "_law_cup" = some (some (.ref f16))) (l16 : K.lookup f16 = some ⟨oc16, od16, .func (PySem.W.fnOf "_law_cup" "_law_cup" (defArgs sCup) (defBody sCup) (defScope sCup) .none kV16 dc16 pm16 an16 cd16 ct16), sl16⟩) (c16 : PySem.W.codeIn K cd16 "_law_cup" = true) (k16 : PySem.W.keepIn K (.ref f16) = true)
    {f17 : Addr} {od17 an17 : Option Addr} {sl17 : Array (Option Value)} {oc17 kV17 dc17 pm17 cd17 ct17 : Value}
    (a17 : PySem.W.nsIn K mainGlobals "_law_bit" = some (some (.ref f17))) (l17 : K.lookup f17 = some ⟨oc17, od17, .func (PySem.W.fnOf "_law_bit" "_law_bit" (defArgs sBit) (defBody sBit) (defScope sBit) .none kV17 dc17 pm17 an17 cd17 ct17), sl17⟩) (c17 : PySem.W.codeIn K cd17 "_law_bit" = true) (k17 : PySem.W.keepIn K (.ref f17) = true)
    {f18 : Addr} {od18 an18 : Option Addr} {sl18 : Array (Option Value)} {oc18 kV18 dc18 pm18 cd18 ct18 : Value}
    (a18 : PySem.W.nsIn K mainGlobals "_law_pick" = some (some (.ref f18))) (l18 : K.lookup f18 = some ⟨oc18, od18, .func (PySem.W.fnOf "_law_pick" "_law_pick" (defArgs sPick) (defBody sPick) (defScope sPick) .none kV18 dc18 pm18 an18 cd18 ct18), sl18⟩) (c18 : PySem.W.codeIn K cd18 "_law_pick" = true) (k18 : PySem.W.keepIn K (.ref f18) = true)
    {f19 : Addr} {od19 an19 : Option Addr} {sl19 : Array (Option Value)} {oc19 kV19 dc19 pm19 cd19 ct19 : Value}
    (a19 : PySem.W.nsIn K mainGlobals "_law_signs" = some (some (.ref f19))) (l19 : K.lookup f19 = some ⟨oc19, od19, .func (PySem.W.fnOf "_law_signs" "_law_signs" (defArgs sSigns) (defBody sSigns) (defScope sSigns) .none kV19 dc19 pm19 an19 cd19 ct19), sl19⟩) (c19 : PySem.W.codeIn K cd19 "_law_signs" = true) (k19 : PySem.W.keepIn K (.ref f19) = true)
    {f20 : Addr} {od20 an20 : Option Addr} {sl20 : Array (Option Value)} {oc20 kV20 dc20 pm20 cd20 ct20 : Value}
    (a20 : PySem.W.nsIn K mainGlobals "_law_kind" = some (some (.ref f20))) (l20 : K.lookup f20 = some ⟨oc20, od20, .func (PySem.W.fnOf "_law_kind" "_law_kind" (defArgs sKind) (defBody sKind) (defScope sKind) .none kV20 dc20 pm20 an20 cd20 ct20), sl20⟩) (c20 : PySem.W.codeIn K cd20 "_law_kind" = true) (k20 : PySem.W.keepIn K (.ref f20) = true)
    {f21 : Addr} {od21 an21 : Option Addr} {sl21 : Array (Option Value)} {oc21 kV21 dc21 pm21 cd21 ct21 : Value}
    (a21 : PySem.W.nsIn K mainGlobals "_law_lines_to" = some (some (.ref f21))) (l21 : K.lookup f21 = some ⟨oc21, od21, .func (PySem.W.fnOf "_law_lines_to" "_law_lines_to" (defArgs sLines) (defBody sLines) (defScope sLines) .none kV21 dc21 pm21 an21 cd21 ct21), sl21⟩) (c21 : PySem.W.codeIn K cd21 "_law_lines_to" = true) (k21 : PySem.W.keepIn K (.ref f21) = true)
    {f22 : Addr} {od22 an22 : Option Addr} {sl22 : Array (Option Value)} {oc22 kV22 dc22 pm22 cd22 ct22 : Value}
    (a22 : PySem.W.nsIn K mainGlobals "_law_leads" = some (some (.ref f22))) (l22 : K.lookup f22 = some ⟨oc22, od22, .func (PySem.W.fnOf "_law_leads" "_law_leads" (defArgs sLeads) (defBody sLeads) (defScope sLeads) .none kV22 dc22 pm22 an22 cd22 ct22), sl22⟩) (c22 : PySem.W.codeIn K cd22 "_law_leads" = true) (k22 : PySem.W.keepIn K (.ref f22) = true)
    {f23 : Addr} {od23 an23 : Option Addr} {sl23 : Array (Option Value)} {oc23 kV23 dc23 pm23 cd23 ct23 : Value}
    (a23 : PySem.W.nsIn K mainGlobals "_law_leaders" = some (some (.ref f23))) (l23 : K.lookup f23 = some ⟨oc23, od23, .func (PySem.W.fnOf "_law_leaders" "_law_leaders" (defArgs sLeaders) (defBody sLeaders) (defScope sLeaders) .none kV23 dc23 pm23 an23 cd23 ct23), sl23⟩) (c23 : PySem.W.codeIn K cd23 "_law_leaders" = true) (k23 : PySem.W.keepIn K (.ref f23) = true)
    {f24 : Addr} {od24 an24 : Option Addr} {sl24 : Array (Option Value)} {oc24 kV24 dc24 pm24 cd24 ct24 : Value}
    (a24 : PySem.W.nsIn K mainGlobals "_law_free" = some (some (.ref f24))) (l24 : K.lookup f24 = some ⟨oc24, od24, .func (PySem.W.fnOf "_law_free" "_law_free" (defArgs sLawFree) (defBody sLawFree) (defScope sLawFree) .none kV24 dc24 pm24 an24 cd24 ct24), sl24⟩) (c24 : PySem.W.codeIn K cd24 "_law_free" = true) (k24 : PySem.W.keepIn K (.ref f24) = true)
    {f25 : Addr} {od25 an25 : Option Addr} {sl25 : Array (Option Value)} {oc25 kV25 dc25 pm25 cd25 ct25 : Value}
    (a25 : PySem.W.nsIn K mainGlobals "_law_powers_right" = some (some (.ref f25))) (l25 : K.lookup f25 = some ⟨oc25, od25, .func (PySem.W.fnOf "_law_powers_right" "_law_powers_right" (defArgs sPowRight) (defBody sPowRight) (defScope sPowRight) .none kV25 dc25 pm25 an25 cd25 ct25), sl25⟩) (c25 : PySem.W.codeIn K cd25 "_law_powers_right" = true) (k25 : PySem.W.keepIn K (.ref f25) = true)
    {f26 : Addr} {od26 an26 : Option Addr} {sl26 : Array (Option Value)} {oc26 kV26 dc26 pm26 cd26 ct26 : Value}
    (a26 : PySem.W.nsIn K mainGlobals "_law_sum_right" = some (some (.ref f26))) (l26 : K.lookup f26 = some ⟨oc26, od26, .func (PySem.W.fnOf "_law_sum_right" "_law_sum_right" (defArgs sSumRight) (defBody sSumRight) (defScope sSumRight) .none kV26 dc26 pm26 an26 cd26 ct26), sl26⟩) (c26 : PySem.W.codeIn K cd26 "_law_sum_right" = true) (k26 : PySem.W.keepIn K (.ref f26) = true)
    {f27 : Addr} {od27 an27 : Option Addr} {sl27 : Array (Option Value)} {oc27 kV27 dc27 pm27 cd27 ct27 : Value}
    (a27 : PySem.W.nsIn K mainGlobals "_law_right" = some (some (.ref f27))) (l27 : K.lookup f27 = some ⟨oc27, od27, .func (PySem.W.fnOf "_law_right" "_law_right" (defArgs sRight) (defBody sRight) (defScope sRight) .none kV27 dc27 pm27 an27 cd27 ct27), sl27⟩) (c27 : PySem.W.codeIn K cd27 "_law_right" = true) (k27 : PySem.W.keepIn K (.ref f27) = true)
    {f28 : Addr} {od28 an28 : Option Addr} {sl28 : Array (Option Value)} {oc28 kV28 dc28 pm28 cd28 ct28 : Value}
    (a28 : PySem.W.nsIn K mainGlobals "law" = some (some (.ref f28))) (l28 : K.lookup f28 = some ⟨oc28, od28, .func (PySem.W.fnOf "law" "law" (defArgs sLaw) (defBody sLaw) (defScope sLaw) .none kV28 dc28 pm28 an28 cd28 ct28), sl28⟩) (c28 : PySem.W.codeIn K cd28 "law" = true) (k28 : PySem.W.keepIn K (.ref f28) = true)
    {fF D : Addr} {odF anF : Option Addr} {slF : Array (Option Value)} {ocF dcF pmF cdF ctF : Value}
    (aF : PySem.W.nsIn K mainGlobals "free_patterns" = some (some (.ref fF))) (lF : K.lookup fF = some ⟨ocF, odF, .func (PySem.W.fnOf "free_patterns" "free_patterns" (defArgs sFree) (defBody sFree) (defScope sFree) .none (.ref D) dcF pmF anF cdF ctF), slF⟩) (cF : PySem.W.codeIn K cdF "free_patterns" = true) (kF : PySem.W.keepIn K (.ref fF) = true)
    (dF : PySem.W.nsIn K D "prime" = some (some .none))
    (z1 : PySem.W.nsIn K mainGlobals "isinstance" = some none)
    (z2 : PySem.W.nsIn K mainGlobals "int" = some none)
    (z3 : PySem.W.nsIn K mainGlobals "str" = some none)
    (z4 : PySem.W.nsIn K mainGlobals "bool" = some none)
    (z5 : PySem.W.nsIn K mainGlobals "abs" = some none)
    (z6 : PySem.W.nsIn K mainGlobals "len" = some none)
    (z7 : PySem.W.nsIn K mainGlobals "list" = some none)
    (z8 : PySem.W.nsIn K mainGlobals "set" = some none)
    (z9 : PySem.W.nsIn K mainGlobals "sorted" = some none)
    (z10 : PySem.W.nsIn K mainGlobals "repr" = some none)
    (z11 : PySem.W.nsIn K mainGlobals "range" = some none)
    (z12 : PySem.W.nsIn K mainGlobals "max" = some none)
    (z13 : PySem.W.nsIn K mainGlobals "min" = some none)
    (z14 : PySem.W.nsIn K mainGlobals "all" = some none)
    (z15 : PySem.W.nsIn K mainGlobals "sum" = some none)
    (z16 : PySem.W.nsIn K mainGlobals "tuple" = some none)
    {t1 : Tok} (v1 : PySem.W.nsIn K mainGlobals "ALPHABET" = some (some (.str alpha t1)))
    {t2 : Tok} (v2 : PySem.W.nsIn K mainGlobals "MAX_LETTERS" = some (some (.int 3 t2)))
    {t3 : Tok} (v3 : PySem.W.nsIn K mainGlobals "MAX_PATTERN" = some (some (.int 400 t3)))
    {t4 : Tok} (v4 : PySem.W.nsIn K mainGlobals "MAX_DEPTH" = some (some (.int 5 t4)))
    {u1 u2 u3 u4 : Tok} {dd : Option Addr} {nn : Nat} {ps : Array (Option Value)} (aP : PySem.W.nsIn K mainGlobals "PRIMES" = some (some (.ref pp))) (lP : K.lookup pp = some ⟨.type "tuple", dd, .seq #[.int 2 u1, .int 3 u2, .int 5 u3, .int 7 u4] nn, ps⟩) :
    ∃ fd : FuncData, (∀ (s : Shared) (v : Value), BindsTo s fd ⟨[v], []⟩ [("_law_script", v)]) ∧ ∀ base : Heap, K.In base → base.Ns mainGlobals mg → Kept l.prog w K mg base CX0 7 fa fd ["_law_script"] (spLaw K) := by
  have e := hfa.symm.trans (PySem.W.mg_of X G a28)
  cases e
  obtain ⟨n, t0, en, hx⟩ := hx
  subst en
  have T : Txt K mg := by
    refine ⟨PySem.W.mg_none_of X G z1, PySem.W.mg_none_of X G z2, PySem.W.mg_none_of X G z3, PySem.W.mg_none_of X G z4, PySem.W.mg_none_of X G z5, PySem.W.mg_none_of X G z6, PySem.W.mg_none_of X G z7, PySem.W.mg_none_of X G z8, PySem.W.mg_none_of X G z9, PySem.W.mg_none_of X G z10, PySem.W.mg_none_of X G z11, PySem.W.mg_none_of X G z12, PySem.W.mg_none_of X G z13, PySem.W.mg_none_of X G z14, PySem.W.mg_none_of X G z15, PySem.W.mg_none_of X G z16, ⟨_, hx⟩, ⟨_, PySem.W.mg_of X G v1⟩, ⟨_, PySem.W.mg_of X G v2⟩, ⟨_, PySem.W.mg_of X G v3⟩, ⟨_, PySem.W.mg_of X G v4⟩, ⟨pp, PySem.W.mg_of X G aP, fun H => .inr ⟨_, _, _, lP, rfl, rfl, ?_, ?_⟩⟩⟩
    · show 4 ≤ sizeLine
      decide
    · exact .cons ⟨_, rfl⟩ (.cons ⟨_, rfl⟩ (.cons ⟨_, rfl⟩ (.cons ⟨_, rfl⟩ .nil)))
  have D1 : Df K mg "is_integer" sInt ["value"] f1 _ := df_mk X G a1 l1 c1 k1 fun _ _ _ _ _ _ us hl => match us, hl with | [_], _ => rfl
  have D2 : Df K mg "is_letters" sLetters ["value"] f2 _ := df_mk X G a2 l2 c2 k2 fun _ _ _ _ _ _ us hl => match us, hl with | [_], _ => rfl
  have D3 : Df K mg "is_prime" sPrime ["value"] f3 _ := df_mk X G a3 l3 c3 k3 fun _ _ _ _ _ _ us hl => match us, hl with | [_], _ => rfl
  have D4 : Df K mg "check_letters" sCheck ["value"] f4 _ := df_mk X G a4 l4 c4 k4 fun _ _ _ _ _ _ us hl => match us, hl with | [_], _ => rfl
  have D5 : Df K mg "has_only" sHas ["value", "signs", "most"] f5 _ := df_mk X G a5 l5 c5 k5 fun _ _ _ _ _ _ us hl => match us, hl with | [_, _, _], _ => rfl
  have D6 : Df K mg "check_between" sBetween ["value", "least", "most"] f6 _ := df_mk X G a6 l6 c6 k6 fun _ _ _ _ _ _ us hl => match us, hl with | [_, _, _], _ => rfl
  have D7 : Df K mg "check_prime" sCheckPrime ["value"] f7 _ := df_mk X G a7 l7 c7 k7 fun _ _ _ _ _ _ us hl => match us, hl with | [_], _ => rfl
  have D8 : Df K mg "check_some_prime" sSomePrime ["value"] f8 _ := df_mk X G a8 l8 c8 k8 fun _ _ _ _ _ _ us hl => match us, hl with | [_], _ => rfl
  have D9 : Df K mg "text_order" sOrder ["text"] f9 _ := df_mk X G a9 l9 c9 k9 fun _ _ _ _ _ _ us hl => match us, hl with | [_], _ => rfl
  have D10 : Df K mg "all_texts" sTexts ["letters", "size"] f10 _ := df_mk X G a10 l10 c10 k10 fun _ _ _ _ _ _ us hl => match us, hl with | [_, _], _ => rfl
  have D11 : Df K mg "is_least_end" sLeast ["pattern"] f11 _ := df_mk X G a11 l11 c11 k11 fun _ _ _ _ _ _ us hl => match us, hl with | [_], _ => rfl
  have D12 : Df K mg "leading_powers" sLeadPow ["pattern", "depth", "prime"] f12 _ := df_mk X G a12 l12 c12 k12 fun _ _ _ _ _ _ us hl => match us, hl with | [_, _, _], _ => rfl
  have D13 : Df K mg "how_many" sMany ["letters", "size"] f13 _ := df_mk X G a13 l13 c13 k13 fun _ _ _ _ _ _ us hl => match us, hl with | [_, _], _ => rfl
  have D14 : Df K mg "divisor_sign" sDivSign ["number"] f14 _ := df_mk X G a14 l14 c14 k14 fun _ _ _ _ _ _ us hl => match us, hl with | [_], _ => rfl
  have D15 : Df K mg "power_of" sPow ["number", "exponent"] f15 _ := df_mk X G a15 l15 c15 k15 fun _ _ _ _ _ _ us hl => match us, hl with | [_, _], _ => rfl
  have D16 : Df K mg "_law_cup" sCup ["_law_script", "_law_at"] f16 _ := df_mk X G a16 l16 c16 k16 fun _ _ _ _ _ _ us hl => match us, hl with | [_, _], _ => rfl
  have D17 : Df K mg "_law_bit" sBit ["_law_cup_here", "_law_much"] f17 _ := df_mk X G a17 l17 c17 k17 fun _ _ _ _ _ _ us hl => match us, hl with | [_, _], _ => rfl
  have D18 : Df K mg "_law_pick" sPick ["_law_cup_here", "_law_items"] f18 _ := df_mk X G a18 l18 c18 k18 fun _ _ _ _ _ _ us hl => match us, hl with | [_, _], _ => rfl
  have D19 : Df K mg "_law_signs" sSigns ["_law_cup_here"] f19 _ := df_mk X G a19 l19 c19 k19 fun _ _ _ _ _ _ us hl => match us, hl with | [_], _ => rfl
  have D20 : Df K mg "_law_kind" sKind ["_law_cup_here"] f20 _ := df_mk X G a20 l20 c20 k20 fun _ _ _ _ _ _ us hl => match us, hl with | [_], _ => rfl
  have D21 : Df K mg "_law_lines_to" sLines ["_law_signs_here", "_law_deep"] f21 _ := df_mk X G a21 l21 c21 k21 fun _ _ _ _ _ _ us hl => match us, hl with | [_, _], _ => rfl
  have D22 : Df K mg "_law_leads" sLeads ["_law_line"] f22 _ := df_mk X G a22 l22 c22 k22 fun _ _ _ _ _ _ us hl => match us, hl with | [_], _ => rfl
  have D23 : Df K mg "_law_leaders" sLeaders ["_law_signs_here", "_law_deep"] f23 _ := df_mk X G a23 l23 c23 k23 fun _ _ _ _ _ _ us hl => match us, hl with | [_, _], _ => rfl
  have D24 : Df K mg "_law_free" sLawFree ["_law_signs_here", "_law_deep", "_law_kind_here"] f24 _ := df_mk X G a24 l24 c24 k24 fun _ _ _ _ _ _ us hl => match us, hl with | [_, _, _], _ => rfl
  have D25 : Df K mg "_law_powers_right" sPowRight ["_law_signs_here", "_law_deep", "_law_kind_here", "_law_told"] f25 _ := df_mk X G a25 l25 c25 k25 fun _ _ _ _ _ _ us hl => match us, hl with | [_, _, _, _], _ => rfl
  have D26 : Df K mg "_law_sum_right" sSumRight ["_law_signs_here", "_law_much"] f26 _ := df_mk X G a26 l26 c26 k26 fun _ _ _ _ _ _ us hl => match us, hl with | [_, _], _ => rfl
  have D27 : Df K mg "_law_right" sRight ["_law_cup_here"] f27 _ := df_mk X G a27 l27 c27 k27 fun _ _ _ _ _ _ us hl => match us, hl with | [_], _ => rfl
  have D28 : Df K mg "law" sLaw ["_law_script"] fa _ := df_mk X G a28 l28 c28 k28 fun _ _ _ _ _ _ us hl => match us, hl with | [_], _ => rfl
  have DF : DfF K mg fF _ := dff_mk X G aF lF cF kF dF
  refine ⟨PySem.W.fnOf "law" "law" (defArgs sLaw) (defBody sLaw) (defScope sLaw) .none kV28 dc28 pm28 an28 cd28 ct28, fun s v => .of_eq rfl, fun base _ _ => ?_⟩
  have GM := ok_many (P := l.prog) (w := w) (base := base) D13.F T D5 D2 D4 D1 D6 D14 D15
  have GF := ok_free (P := l.prog) (w := w) (base := base) DF.F T D5 D2 D4 D1 D6 D3 D7 D8 D10 D11 D12 D9
  have GR := ok_right (P := l.prog) (w := w) (base := base) D27.F T ⟨ok_signs D19.F T D17 D18, ok_bit D17.F T, ok_kind D20.F T D17 D18, GF, ok_lawfree D24.F T D21 D22 D23,
    ok_powright D25.F T D13 GM, ok_leaders D23.F T D21 D22, ok_sumright D26.F T D13 GM,
    D19, D17, D20, DF, D24, D25, D23, D26⟩
  exact ok_law D28.F T ⟨ok_cup D16.F T, GR, GM, GF, D16, D27, D13, DF⟩
theorem fin {l : PySem.W.OpenLaw} {q : Program} {loose : List Str} {XP : (Str → Option Value) → Heap → Prop} {YP : World → Heap → Prop} {d : DefRec} {K : Params → PySem.W.Frag} (hn : l.most = some 63) (hdf : d.params.defaults = [])
    (hY : ∀ (w : World) (h : Heap), YP w h → (K w.params).In h)
    (F : ∀ (w : World) (mg : Str → Option Value) (fa : Addr) (h : Heap), (K w.params).In h → h.Ns mainGlobals mg → mg d.name = some (.ref fa) → XP mg h →
      ∃ fd : FuncData, (∀ (s : Shared) (u : Value), BindsTo s fd ⟨[u], []⟩ [("_law_script", u)]) ∧ ∀ base : Heap, (K w.params).In base → base.Ns mainGlobals mg → Kept l.prog w (K w.params) mg base CX0 7 fa fd ["_law_script"] (spLaw (K w.params))) :
    PySem.W.WalkO q loose XP YP l.row.toRowW d [] (fun f vs => PySem.call f vs) :=
  Tg.walk (n := 63) (k := 7) (x := "_law_script") (cx := fun _ => CX0) (sp := fun w => spLaw (K w.params)) hn (by decide) hdf ⟨rfl, by decide, by decide⟩ hY F (fun _ _ a ns hl _ hS => ⟨a, ns, rfl, hS, hl, fun _ => rfl⟩) fun _ _ _ _ _ z => z
end K9
set_option Elab.async false
set_option maxRecDepth 100000
open PySem PySem.W PyProof.Rows
set_option maxRecDepth 100000 in
set_option maxHeartbeats 0 in
theorem PySem.Challenge.cw_whatcounts_k09_whole_free_patterns_and_n_holds : PySem.Challenge.rw_whatcounts_k09_whole_free_patterns_and_n.Holds := by
  w_on; o_law; k_head; (case hw => w_witness2)
  k_fill
  refine K9.fin (l := PySem.Challenge.rw_whatcounts_k09_whole_free_patterns_and_n) rfl rfl (fun w h Y => PySem.W.kIn_of Y) ?F
  case F =>
    intro w mg fa h KX G hmg hx
    have hx' : ∃ n t, n = 10 ^ 200 ∧ mg "LEAST_TOO_LONG" = some (.int n t) := by
      obtain ⟨v, e, r⟩ := hx.2.val _ (List.mem_singleton.mpr rfl)
      cases r
      exact ⟨_, _, by decide +kernel, e⟩
    refine' K9.all_mk KX G hmg hx' ?a1 ?l1 ?c1 ?k1 ?a2 ?l2 ?c2 ?k2 ?a3 ?l3 ?c3 ?k3 ?a4 ?l4 ?c4 ?k4 ?a5 ?l5 ?c5 ?k5 ?a6 ?l6 ?c6 ?k6 ?a7 ?l7 ?c7 ?k7 ?a8 ?l8 ?c8 ?k8 ?a9 ?l9 ?c9 ?k9 ?a10 ?l10 ?c10 ?k10 ?a11 ?l11 ?c11 ?k11 ?a12 ?l12 ?c12 ?k12 ?a13 ?l13 ?c13 ?k13 ?a14 ?l14 ?c14 ?k14 ?a15 ?l15 ?c15 ?k15 ?a16 ?l16 ?c16 ?k16 ?a17 ?l17 ?c17 ?k17 ?a18 ?l18 ?c18 ?k18 ?a19 ?l19 ?c19 ?k19 ?a20 ?l20 ?c20 ?k20 ?a21 ?l21 ?c21 ?k21 ?a22 ?l22 ?c22 ?k22 ?a23 ?l23 ?c23 ?k23 ?a24 ?l24 ?c24 ?k24 ?a25 ?l25 ?c25 ?k25 ?a26 ?l26 ?c26 ?k26 ?a27 ?l27 ?c27 ?k27 ?a28 ?l28 ?c28 ?k28 ?aF ?lF ?cF ?kF ?dF ?z1 ?z2 ?z3 ?z4 ?z5 ?z6 ?z7 ?z8 ?z9 ?z10 ?z11 ?z12 ?z13 ?z14 ?z15 ?z16 ?v1 ?v2 ?v3 ?v4 ?aP ?lP
    (case a1 => k_is)
    (case l1 => k_is)
    (case c1 => k_is)
    (case k1 => k_is)
    (case a2 => k_is)
    (case l2 => k_is)
    (case c2 => k_is)
    (case k2 => k_is)
    (case a3 => k_is)
    (case l3 => k_is)
    (case c3 => k_is)
    (case k3 => k_is)
    (case a4 => k_is)
    (case l4 => k_is)
    (case c4 => k_is)
    (case k4 => k_is)
    (case a5 => k_is)
    (case l5 => k_is)
    (case c5 => k_is)
    (case k5 => k_is)
    (case a6 => k_is)
    (case l6 => k_is)
    (case c6 => k_is)
    (case k6 => k_is)
    (case a7 => k_is)
    (case l7 => k_is)
    (case c7 => k_is)
    (case k7 => k_is)
    (case a8 => k_is)
    (case l8 => k_is)
    (case c8 => k_is)
    (case k8 => k_is)
    (case a9 => k_is)
    (case l9 => k_is)
    (case c9 => k_is)
    (case k9 => k_is)
    (case a10 => k_is)
    (case l10 => k_is)
    (case c10 => k_is)
    (case k10 => k_is)
    (case a11 => k_is)
    (case l11 => k_is)
    (case c11 => k_is)
    (case k11 => k_is)
    (case a12 => k_is)
    (case l12 => k_is)
    (case c12 => k_is)
    (case k12 => k_is)
    (case a13 => k_is)
    (case l13 => k_is)
    (case c13 => k_is)
    (case k13 => k_is)
    (case a14 => k_is)
    (case l14 => k_is)
    (case c14 => k_is)
    (case k14 => k_is)
    (case a15 => k_is)
    (case l15 => k_is)
    (case c15 => k_is)
    (case k15 => k_is)
    (case a16 => k_is)
    (case l16 => k_is)
    (case c16 => k_is)
    (case k16 => k_is)
    (case a17 => k_is)
    (case l17 => k_is)
    (case c17 => k_is)
    (case k17 => k_is)
    (case a18 => k_is)
    (case l18 => k_is)
    (case c18 => k_is)
    (case k18 => k_is)
    (case a19 => k_is)
    (case l19 => k_is)
    (case c19 => k_is)
    (case k19 => k_is)
    (case a20 => k_is)
    (case l20 => k_is)
    (case c20 => k_is)
    (case k20 => k_is)
    (case a21 => k_is)
    (case l21 => k_is)
    (case c21 => k_is)
    (case k21 => k_is)
    (case a22 => k_is)
    (case l22 => k_is)
    (case c22 => k_is)
    (case k22 => k_is)
    (case a23 => k_is)
    (case l23 => k_is)
    (case c23 => k_is)
    (case k23 => k_is)
    (case a24 => k_is)
    (case l24 => k_is)
    (case c24 => k_is)
    (case k24 => k_is)
    (case a25 => k_is)
    (case l25 => k_is)
    (case c25 => k_is)
    (case k25 => k_is)
    (case a26 => k_is)
    (case l26 => k_is)
    (case c26 => k_is)
    (case k26 => k_is)
    (case a27 => k_is)
    (case l27 => k_is)
    (case c27 => k_is)
    (case k27 => k_is)
    (case a28 => k_is)
    (case l28 => k_is)
    (case c28 => k_is)
    (case k28 => k_is)
    (case aF => k_is)
    (case lF => k_is)
    (case cF => k_is)
    (case kF => k_is)
    (case dF => k_is)
    (case z1 => k_is)
    (case z2 => k_is)
    (case z3 => k_is)
    (case z4 => k_is)
    (case z5 => k_is)
    (case z6 => k_is)
    (case z7 => k_is)
    (case z8 => k_is)
    (case z9 => k_is)
    (case z10 => k_is)
    (case z11 => k_is)
    (case z12 => k_is)
    (case z13 => k_is)
    (case z14 => k_is)
    (case z15 => k_is)
    (case z16 => k_is)
    (case v1 => k_is)
    (case v2 => k_is)
    (case v3 => k_is)
    (case v4 => k_is)
    (case aP => k_is)
    (case lP => k_is)
