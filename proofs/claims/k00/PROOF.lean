import PyProof.Rows.All
import Wide.All
import OpenK.AllK
import Wide.FinOn
import HandS.ForMost
import HandS.IsInst
import HandS.Wide
import HandS.Strs
import HandS.SetTxt0
import HandS.Set
import HandS.SetTxtIn
import HandS.Exc
import HandS.TryOnly
import HandS.ExcOwn
import HandS.WordsExc
import PyProof.ReprReads
import PyProof.Rows.StrCut
import HandS.StrMore
import PyProof.StrBlock2
import PyProof.Rows.StrCase
import HandS.RaiseMore
import PySem.Challenge.RW_whatcounts_k00_integers_texts_and_primes
set_option Elab.async false
set_option linter.all false
set_option maxRecDepth 100000
set_option maxHeartbeats 3200000
/-! sets of texts: made of a text, sorted -/
namespace Tx
open PySem PySem.Spec PyProof.Rows L2

/-- the text that an entry holds -/
def tx (e : Int × Value) : Str := match e.2 with
  | .str y _ => y
  | _ => Str.empty
/-- an entry of a set of texts -/
def Ent (w : World) (e : Int × Value) : Prop := ∃ y u, e.2 = Value.str y u ∧ e.1 = hashStr w y

/-- at a stands a set whose members are the texts ys, in some order -/
def At (w : World) (h : Heap) (a : Addr) (ys : List Str) : Prop :=
  ∃ (o : Obj) (es : Array (Int × Value)) (ep : Nat) (t : SetTable), h.get? a = some o ∧ o.ExactSet ∧ o.data = .set es ep t ∧
    (∀ e ∈ es.toList, Ent w e) ∧ (es.toList.map tx).Perm ys ∧ es.size < scanBound ∧ t.fits es.size = true ∧
    Ris t.place.toList ∧ (w.params.followText "set-order" = true ∨ t.led = true)

section
variable {P : Program} {w : World} {h h' : Heap} {a : Addr} {ys : List Str}
theorem At.stays (R : At w h a ys) (k : ∀ o, h.get? a = some o → h'.get? a = some o) : At w h' a ys :=
  let ⟨o, es, ep, t, ho, r⟩ := R
  ⟨o, es, ep, t, k o ho, r⟩
theorem Ent.elems {l : List (Int × Value)} (g : ∀ e ∈ l, Ent w e) : ElemsOf (strKind P w) l := by
  intro e he
  obtain ⟨y, u, q1, q2⟩ := g e he
  refine ⟨⟨y, ?_, q2⟩, ?_⟩
  · rw [q1]
    exact Froz.is_str y u
  · rw [q1]
    rfl
theorem Ent.is {e : Int × Value} (g : Ent w e) (k : Str) : (strKind P w).is k e.2 = true ↔ tx e = k := by
  obtain ⟨y, u, q1, _⟩ := g
  unfold tx
  rw [q1]
  constructor
  · intro q
    exact ((strKind P w).inj (.str y u) k y q (Froz.is_str y u)).symm
  · intro q
    subst q
    exact Froz.is_str _ u
theorem Ent.mem {l : List (Int × Value)} (g : ∀ e ∈ l, Ent w e) (k : Str) : k ∈ l.map tx ↔ ∃ e ∈ l, (strKind P w).is k e.2 = true := by
  rw [List.mem_map]
  exact ⟨fun ⟨e, he, q⟩ => ⟨e, he, ((g e he).is k).mpr q⟩, fun ⟨e, he, q⟩ => ⟨e, he, ((g e he).is k).mp q⟩⟩
end

section
variable {P : Program} {w : World} {A : Around} {E : Value → Shared → Prop} {s : Shared} {a : Addr} {ys : List Str}
theorem add_tail {g : Bool → Sem Unit} (hg : ∀ (b : Bool) (z : Shared) (R : Unit → Shared → Prop), R () z → wpAny (model P w) A (g b) R E z)
    {o : Obj} {es : Array (Int × Value)} {ep : Nat} {t : SetTable} (ho : s.heap.get? a = some o) (hx : o.ExactSet) (hd : o.data = .set es ep t)
    {es1 : Array (Int × Value)} {t2 : SetTable} (g1 : ∀ e ∈ es1.toList, Ent w e) (m1 : (es1.toList.map tx).Perm ys)
    (hb1 : es1.size < scanBound) (hf2 : t2.fits es1.size = true) (hr : Ris t2.place.toList) (hl : w.params.followText "set-order" = true ∨ t2.led = true)
    {was : Bool} {R : Option Bool → Shared → Prop}
    (hR : ∀ h', Heap.SameBut a s.heap h' → At w h' a ys → R (some true) { s with heap := h' }) :
    wpAny (model P w) A (do
        storeSet a es1 t2
        if (!was && t2.tooFull) = true then do
            g (relayAll t2 es1 (SetTable.grown es1.size)).2.2
            storeSet a (relayAll t2 es1 (SetTable.grown es1.size)).1 (relayAll t2 es1 (SetTable.grown es1.size)).2.1
            pure (some true)
          else pure (some true)) R E s := by
  refine wpAny_bind (wpAny_storeSet_of ho hd ?_ (fits_of_scanBound hb1))
  have q1 := store_at (es' := es1) (t' := t2) ho hd
  have sb := Heap.SameBut.update s.heap a (Obj.putSet es1 t2)
  split
  · have p3 := relayAll_perm t2 es1 (SetTable.grown es1.size)
    have f3 := relayAll_fits t2 es1 (SetTable.grown es1.size)
    have r3 := relayAll_ris t2 es1 (SetTable.grown es1.size)
    have l3 := relayAll_led t2 es1 (SetTable.grown es1.size)
    generalize relayAll t2 es1 (SetTable.grown es1.size) = Z at p3 f3 r3 l3 ⊢
    obtain ⟨es2, t3, gave⟩ := Z
    dsimp only at p3 f3 r3 l3 ⊢
    have z2 : es2.size = es1.size := by
      have := p3.length_eq
      rw [Array.length_toList, Array.length_toList] at this
      exact this
    refine wpAny_bind (hg _ _ _ ?_)
    refine wpAny_bind (wpAny_storeSet_of q1 rfl ?_ (fits_of_scanBound (by rw [z2]; exact hb1)))
    have q2 := store_at (es' := es2) (t' := t3) q1 rfl
    refine wpAny_pure (hR _ (sb.trans (Heap.SameBut.update _ a _)) ?_)
    exact ⟨_, es2, _, t3, q2, hx, rfl, fun e he => g1 e (p3.mem_iff.mp he), (p3.map tx).trans m1, by rw [z2]; exact hb1, f3, r3, hl.imp id fun z => l3.trans z⟩
  · exact wpAny_pure (hR _ sb ⟨_, es1, _, t2, q1, hx, rfl, g1, m1, hb1, hf2, hr, hl⟩)

theorem add_hashed {k : Str} {u : Tok} {Q : Bool → Shared → Prop} (R : At w s.heap a ys) (room : ys.length + 1 < scanBound)
    (hQ : ∀ h', Heap.SameBut a s.heap h' → At w h' a (if k ∈ ys then ys else k :: ys) → Q (!decide (k ∈ ys)) { s with heap := h' }) :
    wpAny (model P w) A (setAddHashed a (.str k u) (hashStr w k)) Q E s := by
  obtain ⟨o, es, ep, t, ho, hx, hd, g, pm, hb, hf, hr, hl⟩ := R
  have hkey : (strKind P w).is k (.str k u) = true := Froz.is_str k u
  have hel : ElemsOf (strKind P w) es.toList := Ent.elems g
  have hz : es.size = ys.length := by
    have := pm.length_eq
    rw [List.length_map, Array.length_toList] at this
    exact this
  unfold setAddHashed setAddHashedIn
  refine wpAny_holding (wpAny_bind (wpAny_setState_of ho hd hf ?_))
  dsimp only
  rw [byScan_of (x := Value.str k u) rfl hb hel]
  simp only [↓reduceIte]
  unfold setAddByScan
  refine wpAny_bind ?_
  refine wpAny_bind (wpAny_rule ?_)
  refine wpAny_bind (wpAny_setScan_of (knd := strKind P w) (k := k) hkey ho hd hf hel ?_)
  cases hfi : List.findIdx? (fun e => (strKind P w).is k e.2) es.toList with
  | some j =>
    dsimp only
    obtain ⟨hj, pj, _⟩ := List.findIdx?_eq_some_iff_getElem.mp hfi
    have hk : k ∈ ys := pm.mem_iff.mp ((Ent.mem (P := P) g k).mpr ⟨es.toList[j], List.getElem_mem hj, pj⟩)
    refine wpAny_pure (wpAny_pure ?_)
    have q := hQ s.heap (Heap.SameBut.refl a s.heap) (by rw [if_pos hk]; exact ⟨o, es, ep, t, ho, hx, hd, g, pm, hb, hf, hr, hl⟩)
    rw [decide_eq_true hk] at q
    exact q
  | none =>
    dsimp only
    have hk : k ∉ ys := fun z => by
      obtain ⟨e, he, q⟩ := (Ent.mem (P := P) g k).mp (pm.mem_iff.mpr z)
      have c := List.findIdx?_eq_none_iff.mp hfi e he
      rw [q] at c
      cases c
    have hgw : ∀ (b : Bool) {z : Shared} {R : Unit → Shared → Prop}, R () z → wpAny (model P w) A (match b with | true => rule "set.scan.the-table-gave-way" | false => pure ()) R E z := by
      intro b z R q
      cases b
      · exact wpAny_pure q
      · exact wpAny_rule q
    have p1 := layNew_perm t es (hashStr w k) (.str k u)
    have f1 := layNew_fits t es (hashStr w k) (.str k u)
    have r1 := layNew_ris t es (hashStr w k) (.str k u) hr
    have l1 := layNew_led t es (hashStr w k) (.str k u)
    generalize layNew t es (hashStr w k) (.str k u) = Z at p1 f1 r1 l1 ⊢
    obtain ⟨es1, t1, was, gave⟩ := Z
    dsimp only at p1 f1 r1 l1 ⊢
    rw [Array.toList_push] at p1
    have pc : es1.toList.Perm ((hashStr w k, Value.str k u) :: es.toList) := p1.trans (List.perm_append_singleton _ _)
    have pk : (es1.toList.map tx).Perm (k :: ys) := (pc.map tx).trans (List.Perm.cons k pm)
    have g1 : ∀ e ∈ es1.toList, Ent w e := by
      intro e he
      cases List.mem_cons.mp (pc.mem_iff.mp he) with
      | inl z => exact ⟨k, u, by rw [z], by rw [z]⟩
      | inr z => exact g e z
    have hb1 : es1.size < scanBound := by
      have e1 : es1.size = ys.length + 1 := by
        have := pk.length_eq
        rw [List.length_map, Array.length_toList] at this
        exact this
      rw [e1]
      exact room
    have hld : w.params.followText "set-order" = true ∨ t1.led = true := hl.imp id fun z => l1.trans z
    have fin : ∀ h', Heap.SameBut a s.heap h' → At w h' a (k :: ys) → Q true { s with heap := h' } := by
      intro h' sb r
      have q := hQ h' sb (by rw [if_neg hk]; exact r)
      rw [decide_eq_false hk] at q
      exact q
    refine wpAny_bind (hgw _ ?_)
    split
    · refine wpAny_bind ?_
      rw [hashByValue_scannable 8 (x := Value.str k u) rfl]
      refine wpAny_pure ?_
      refine add_tail (ys := k :: ys) ?_ ho hx hd g1 pk hb1 ?_ ?_ ?_ ?_
      · intro b z R q
        cases b
        · exact wpAny_pure q
        · exact wpAny_rule q
      · first | (split <;> first | exact f1 | exact SetTable.fits_plain_off f1) | exact f1
      · first | (split <;> exact r1) | exact r1
      · first | (split <;> exact hld) | exact hld
      · intro h' sb r
        dsimp only
        exact wpAny_pure (fin h' sb r)
    · refine wpAny_bind (wpAny_pure ?_)
      simp only [↓reduceIte]
      refine add_tail (ys := k :: ys) ?_ ho hx hd g1 pk hb1 f1 r1 hld ?_
      · intro b z R q
        cases b
        · exact wpAny_pure q
        · exact wpAny_rule q
      · intro h' sb r
        dsimp only
        exact wpAny_pure (fin h' sb r)
end

/-! ### the signs of a text, each once -/
abbrev one (c : Nat) : Str := ⟨#[c]⟩
theorem one_inj {c d : Nat} (h : one c = one d) : c = d := by
  have q : [c] = [d] := congrArg (fun y : Str => y.cps.toList) h
  exact (List.cons.inj q).1
/-- the members behind the first signs -/
def met : List Nat → List Nat → List Nat
  | acc, [] => acc
  | acc, c :: r => met (if c ∈ acc then acc else c :: acc) r
theorem met_len (l : List Nat) : ∀ acc : List Nat, (met acc l).length ≤ acc.length + l.length := by
  induction l with
  | nil => intro acc; exact Nat.le_refl _
  | cons c r ih =>
    intro acc
    have h := ih (if c ∈ acc then acc else c :: acc)
    show (met (if c ∈ acc then acc else c :: acc) r).length ≤ acc.length + (r.length + 1)
    split at h <;> rename_i hc
    · rw [if_pos hc]; omega
    · rw [if_neg hc]
      rw [List.length_cons] at h
      omega
theorem met_mem (l : List Nat) : ∀ (acc : List Nat) (c : Nat), c ∈ met acc l ↔ c ∈ acc ∨ c ∈ l := by
  induction l with
  | nil => intro acc c; simp [met]
  | cons d r ih =>
    intro acc c
    show c ∈ met (if d ∈ acc then acc else d :: acc) r ↔ _
    rw [ih]
    by_cases hd : d ∈ acc
    · rw [if_pos hd, List.mem_cons]
      constructor
      · rintro (q | q)
        · exact .inl q
        · exact .inr (.inr q)
      · rintro (q | q | q)
        · exact .inl q
        · exact .inl (q ▸ hd)
        · exact .inr q
    · rw [if_neg hd, List.mem_cons, List.mem_cons]
      constructor
      · rintro ((q | q) | q)
        · exact .inr (.inl q)
        · exact .inl q
        · exact .inr (.inr q)
      · rintro (q | q | q)
        · exact .inl (.inr q)
        · exact .inl (.inl q)
        · exact .inr q
theorem met_nodup (l : List Nat) : ∀ acc : List Nat, acc.Nodup → (met acc l).Nodup := by
  induction l with
  | nil => intro acc h; exact h
  | cons d r ih =>
    intro acc h
    refine ih _ ?_
    by_cases hd : d ∈ acc
    · rw [if_pos hd]; exact h
    · rw [if_neg hd]; exact List.nodup_cons.mpr ⟨hd, h⟩
theorem met_mono (l : List Nat) : ∀ (acc : List Nat), acc.length ≤ (met acc l).length := by
  induction l with
  | nil => intro acc; exact Nat.le_refl _
  | cons d r ih =>
    intro acc
    refine Nat.le_trans ?_ (ih _)
    by_cases hd : d ∈ acc
    · rw [if_pos hd]; exact Nat.le_refl _
    · rw [if_neg hd]; exact Nat.le_succ _
theorem mem_one {c : Nat} {l : List Nat} : one c ∈ l.map one ↔ c ∈ l := by
  rw [List.mem_map]
  exact ⟨fun ⟨d, hd, q⟩ => one_inj q ▸ hd, fun q => ⟨c, q, rfl⟩⟩

section
variable {P : Program} {w : World} {A : Around} {R : Result → Shared → Prop} {I : Addr} {fp wr : List Addr} {St : Nat → Heap → Prop} {x : Str}
/-- the making: sign by sign into the set at S -/
theorem loop (W : Walks P w A.in1 I fp wr x.cps.size (SignAt x) St) (S : Addr) (hS : S ∉ fp) (hfew : (met [] x.cps.toList).length + 1 < scanBound) :
    ∀ (r : List Nat) (i : Nat) (acc : List Nat) (s : Shared), x.cps.toList.drop i = r → i ≤ x.cps.size → met acc r = met [] x.cps.toList → St i s.heap → At w s.heap S (acc.map one) →
      (∀ h' tk, (∀ b o, b ≠ S → b ∉ wr → s.heap.get? b = some o → h'.get? b = some o) → At w h' S ((met [] x.cps.toList).map one) → R (.ok (.ret .none)) { s with heap := h', toks := tk }) →
      codeAny (model P w) A (.builtin "set.update.loop" ⟨[.ref S, .ref I], []⟩) R s := by
  have hSw : S ∉ wr := fun z => hS (W.sub _ z)
  intro r
  induction r with
  | nil =>
    intro i acc s hr hi hm hst hat hR
    have hin : i = x.cps.size := by
      have := List.drop_eq_nil_iff.mp hr
      rw [Array.length_toList] at this
      omega
    subst hin
    refine codeAny_builtin PyProof.Rows.F.entry_set_update_loop ?_
    rw [Around.under_plainId PyProof.Rows.F.plain_set_update_loop _]
    show wpAny _ A.in1 (pyNext (.ref I) >>= _) _ _ s
    refine wpAny_bind (W.done s _ _ hst fun h' tk k => ?_)
    show wpAny _ A.in1 (ret Value.none) _ _ _
    refine wpAny_pure (hR h' tk (fun b o _ hb e => k b o hb e) ?_)
    have e : acc = met [] x.cps.toList := hm
    rw [← e]
    exact hat.stays fun o e => k S o hSw e
  | cons c r ih =>
    intro i acc s hr hi hm hst hat hR
    obtain ⟨hx, hr2⟩ := Froz.at_of hr
    have hlt : i < x.cps.size := by
      rcases Nat.lt_or_ge i x.cps.size with z | z
      · exact z
      · rw [Array.getElem?_eq_none z] at hx
        cases hx
    refine codeAny_builtin PyProof.Rows.F.entry_set_update_loop ?_
    rw [Around.under_plainId PyProof.Rows.F.plain_set_update_loop _]
    show wpAny _ A.in1 (pyNext (.ref I) >>= _) _ _ s
    refine wpAny_bind (W.item i s _ _ hlt hst fun v h1 tk1 hv hst1 k1 => ?_)
    obtain ⟨d, u, hd, rfl⟩ := hv
    have ed : d = c := Option.some.inj (hd.symm.trans hx)
    subst ed
    have hat1 : At w h1 S (acc.map one) := hat.stays fun o e => k1 S o hSw e
    show wpAny _ A.in1 (holding [Value.str (one d) u] (setAdd S (.str (one d) u)) >>= _) _ _ _
    refine wpAny_bind (wpAny_holding ?_)
    unfold setAdd
    refine wpAny_holding ?_
    refine wpAny_bind ((strKind P w).pyHash (k := one d) (Froz.is_str _ _) ?_)
    have hlen : (acc.map one).length + 1 < scanBound := by
      rw [List.length_map]
      have := met_mono (d :: r) acc
      rw [hm] at this
      omega
    refine add_hashed (ys := acc.map one) (s := { s with heap := h1, toks := tk1 + 1 }) hat1 hlen fun h2 sb hat2 => ?_
    have e2 : (if one d ∈ acc.map one then acc.map one else one d :: acc.map one) = (if d ∈ acc then acc else d :: acc).map one := by
      by_cases z : d ∈ acc
      · rw [if_pos z, if_pos (mem_one.mpr z)]
      · rw [if_neg z, if_neg (fun q => z (mem_one.mp q))]
        rfl
    rw [e2] at hat2
    have k2 : ∀ b o, b ≠ S → h1.get? b = some o → h2.get? b = some o := fun b o hb e => (sb.2 b hb).trans e
    refine wpAny_pure ⟨plainId_quiet PyProof.Rows.F.plain_set_update_loop _, ih (i + 1) _ _ hr2 hlt hm (W.frame _ _ _ hst1 fun b hb o e => k2 b o (fun z => hS (z ▸ hb)) e) hat2 fun h3 tk3 k3 hat3 => ?_⟩
    exact hR h3 tk3 (fun b o hb hw e => k3 b o hb hw (k2 b o hb (k1 b o hw e))) hat3
end
end Tx
set_option Elab.async false
set_option linter.all false
set_option maxRecDepth 100000
set_option maxHeartbeats 3200000
/-! sets of texts: set(a text), sorted(it), as calls -/
namespace Tx
open PySem PySem.Spec PyProof.Rows L2

section
variable {P : Program} {w : World} {A : Around} {E : Value → Shared → Prop} {s : Shared}
theorem fresh_at (w : World) (h : Heap) (led : Bool) (hl : w.params.followText "set-order" = true ∨ led = true) :
    At w (h.push { cls := .type "set", dict := none, data := .set #[] 0 (.fresh 0 0 led) }) h.objs.size ([] : List Str) :=
  ⟨_, #[], 0, .fresh 0 0 led, Heap.get?_push_size _ rfl, ⟨rfl, rfl, rfl⟩, rfl, (fun e he => by simp at he), by simp, by decide, by rfl, List.Pairwise.nil, hl⟩

/-- a new set, as set.__new__ lays it -/
theorem new_set (v : Value) {R : Value → Shared → Prop}
    (h : R (.ref s.heap.objs.size) { s with heap := s.heap.push { cls := .type "set", dict := none, data := .set #[] 0 (.fresh 0 0 (!w.params.followText "set-order")) } }) :
    codeAny (model P w) A (.call (.builtin "set.__new__") ⟨[.type "set", v], []⟩) (wants R E) s := by
  refine codeAny_of_tree ?_
  show wpAny _ A.in1 (do
    checkBuiltinCall "set.__new__" ⟨[.type "set", v], []⟩
    again (.builtin "set.__new__" ⟨[.type "set", v], []⟩)) _ _ s
  refine wpAny_bind (wpAny_of_eq (F.newCall_set_1 v) (wpAny_pure ⟨plainId_quiet F.plain_set_new _, codeAny_builtin F.entry_set_new ?_⟩))
  rw [Around.under_plainId F.plain_set_new _]
  unfold Builtin.«set.__new__»
  unfold Builtin.Frozenset.newClass
  have hsub := sub_set_self
  obtain ⟨hp, g, d, tk, os⟩ := s
  dsimp only
  wp_walk
  refine wpAny_askSetting (wpAny_pure ?_)
  dsimp only
  simp only [newObj]
  exact wpAny_bind (wpAny_alloc (wpAny_pure (wpAny_pure h)))

theorem call_set_text {x : Str} {t : Tok} {Q : Value → Shared → Prop} (hh : A.handled = none) (hfew : (met [] x.cps.toList).length + 1 < scanBound)
    (h : ∀ (h' : Heap) (tk : Nat), At w h' s.heap.objs.size ((met [] x.cps.toList).map one) → (∀ b o, s.heap.get? b = some o → h'.get? b = some o) → Q (.ref s.heap.objs.size) { s with heap := h', toks := tk }) :
    wpAny (model P w) A (call (.type "set") [.str x t]) Q E s := by
  obtain ⟨c, tl, hmro⟩ := PySem.F.called_set.mro
  have hmade := PySem.F.called_set.made
  have hsub := PySem.F.called_set.sub
  refine wpAny_call (codeAny_of_tree ?_)
  show wpAny _ _ (callAny (.type "set") _) _ _ _
  refine wpAny_pure ⟨Code.quiet_builtin _ (by decide +kernel), codeAny_builtin PySem.F.entry_type_call ?_⟩
  rw [Around.under_plain (weight_type_call_type "set" [.str x t] []) rfl]
  have h1 := PySem.F.called_set.notType
  have h2 := PySem.F.called_set.canCreate
  have hct := PySem.F.typeCall_set_1 (.str x t)
  repeat (any_goals (first | assumption | wp_step))
  refine codeAny_mono (new_set (P := P) (w := w) (E := E) (.str x t) (R := fun obj z => ∃ led : Bool, (w.params.followText "set-order" = true ∨ led = true) ∧ obj = .ref s.heap.objs.size ∧ z = { s with heap := s.heap.push { cls := .type "set", dict := none, data := .set #[] 0 (.fresh 0 0 led) } }) ⟨_, ?_, rfl, rfl⟩) fun r z hr => ?_
  · cases w.params.followText "set-order"
    · exact .inr rfl
    · exact .inl rfl
  cases r with
  | error e => exact hr
  | ok fl =>
    cases fl with
    | ret obj =>
      obtain ⟨led, hled, rfl, rfl⟩ := hr
      have hS : (s.heap.push { cls := .type "set", dict := none, data := .set #[] 0 (.fresh 0 0 led) }).get? s.heap.objs.size = some { cls := .type "set", dict := none, data := .set #[] 0 (.fresh 0 0 led) } := Heap.get?_push_size _ rfl
      have hT : Shared.TypeIs { s with heap := s.heap.push { cls := .type "set", dict := none, data := .set #[] 0 (.fresh 0 0 led) } } (.ref s.heap.objs.size) "set" := ⟨_, hS, rfl⟩
      have hli := PySem.F.called_set.init.lookup
      have hbi := PySem.F.called_set.init.bind (.ref s.heap.objs.size)
      repeat (any_goals (first | assumption | wp_step))
      refine codeAny_mono (codeAny_call_builtin (R := wants (fun r z => r = .none ∧ ∃ h' tk, z = { s with heap := h', toks := tk } ∧ At w h' s.heap.objs.size ((met [] x.cps.toList).map one) ∧
          (∀ b o, s.heap.get? b = some o → h'.get? b = some o)) E) PySem.F.called_set.init.plain PySem.F.entry_set_init (check_set_init_1 hT ?_)) fun r₂ s₂ hr₂ => ?_
      · unfold Builtin.«set.__init__» noKeywords Builtin.Frozenset.updateFrom
        generalize hPI : pyIter = PI
        generalize hAS : Builtin.Frozenset.isAnySet = AS
        wp_walk
        subst hPI
        subst hAS
        refine L2.Fz.anySet ?_
        simp only [Bool.false_eq_true, ↓reduceIte]
        refine wpAny_bind (wpAny_typeOf (typeIs_str _ _ _) ?_)
        have hsd : (Value.type "str" == Value.type "dict") = false := by decide
        simp only [hsd, Bool.false_eq_true, ↓reduceIte]
        refine wpAny_bind (wpAny_pyIter_str fun o St W hst => ?_)
        refine wpAny_bind (wpAny_runValue ?_)
        have hne : s.heap.objs.size ∉ [(s.heap.push { cls := .type "set", dict := none, data := .set #[] 0 (.fresh 0 0 led) }).objs.size] := by
          rw [Heap.size_push, List.mem_singleton]
          exact Nat.ne_of_lt (Nat.lt_succ_self _)
        refine loop (W _ (by simp [hh])) s.heap.objs.size hne hfew _ 0 [] _ (by rfl) (Nat.zero_le _) rfl hst ?_ ?_
        · exact (fresh_at w s.heap led hled).stays fun o e => Heap.get?_push_of_some _ e
        · intro h' tk k hat
          refine wpAny_pure ?_
          show wpAny _ _ (ret Value.none) _ _ _
          refine wpAny_pure ⟨rfl, h', tk, rfl, hat, fun b o e => ?_⟩
          have hb := Heap.lt_size e
          refine k b o (Nat.ne_of_lt hb) ?_ (Heap.get?_push_of_some _ (Heap.get?_push_of_some _ e))
          rw [Heap.size_push, List.mem_singleton]
          exact Nat.ne_of_lt (Nat.lt_succ_of_lt hb)
      · cases r₂ with
        | error e => exact hr₂
        | ok fl₂ =>
          cases fl₂ with
          | ret r =>
            obtain ⟨rfl, h', tk, rfl, hS', hk'⟩ := hr₂
            repeat (any_goals (first | assumption | wp_step))
            exact h _ _ hS' hk'
          | _ => exact hr₂.elim
    | _ => exact hr.elim

/-! ### sorted(a set of one-sign texts) -/
theorem vals_strs {vs : List Value} : ∀ {es : List (Int × Value)}, (∀ e ∈ es, Ent w e) → vs.Perm (es.map (·.2)) → StrsAre vs (vs.map strOf) ∧ (vs.map strOf).Perm (es.map tx) := by
  intro es g p
  refine ⟨strsAre_map vs fun v hv => ?_, ?_⟩
  · obtain ⟨e, he, q⟩ := List.mem_map.mp (p.mem_iff.mp hv)
    obtain ⟨y, u, q1, _⟩ := g e he
    exact ⟨y, u, by rw [← q]; exact q1⟩
  · have q := p.map strOf
    rw [List.map_map] at q
    have e : es.map (strOf ∘ (·.2)) = es.map tx := List.map_congr_left fun e he => by
      obtain ⟨y, u, q1, _⟩ := g e he
      show strOf e.2 = tx e
      unfold tx
      rw [q1]
      rfl
    rw [e] at q
    exact q
theorem pairwise_of_sortedS : ∀ (l : List Str), sortedS l = true → l.Pairwise (fun a b => ltCps b.cps.toList a.cps.toList = false) := by
  have trans : ∀ a b c : List Nat, ltCps b a = false → ltCps c b = false → ltCps c a = false := by
    intro a b c h1 h2
    rw [ltCps_eq] at h1 h2 ⊢
    have h1' := of_decide_eq_false h1
    have h2' := of_decide_eq_false h2
    refine decide_eq_false fun z => ?_
    have n1 : a ≤ b := List.not_lt.mp h1'
    have n2 : b ≤ c := List.not_lt.mp h2'
    exact absurd z (List.not_lt.mpr (List.le_trans n1 n2))
  have all : ∀ (l : List Str) (p : Str), risingS p l = true → (p :: l).Pairwise (fun a b => ltCps b.cps.toList a.cps.toList = false) := by
    intro l
    induction l with
    | nil => intro p _; exact List.pairwise_singleton _ _
    | cons x r ih =>
      intro p h
      have h' : (!ltCps x.cps.toList p.cps.toList && risingS x r) = true := h
      rw [Bool.and_eq_true, Bool.not_eq_true'] at h'
      have q := ih x h'.2
      refine List.pairwise_cons.mpr ⟨fun y hy => ?_, q⟩
      rcases List.mem_cons.mp hy with z | z
      · rw [z]; exact h'.1
      · exact trans _ _ _ h'.1 ((List.pairwise_cons.mp q).1 y z)
  intro l h
  cases l with
  | nil => exact List.Pairwise.nil
  | cons x r => exact all r x h
theorem lt_one {c d : Nat} (h : ltCps (one d).cps.toList (one c).cps.toList = false) : c ≤ d := by
  rw [ltCps_eq] at h
  have q := of_decide_eq_false h
  rcases Nat.lt_or_ge d c with z | z
  · exact absurd (show [d] < [c] from List.cons_lt_cons_iff.mpr (.inl z)) q
  · exact z
/-- sorted one-sign texts, each once, are a rising row of signs -/
theorem rising {ss : List Str} {acc : List Nat} (p : ss.Perm (acc.map one)) (hs : sortedS ss = true) (hn : acc.Nodup) : ∃ ns : List Nat, ss = ns.map one ∧ ns.Perm acc ∧ ns.Pairwise (· < ·) := by
  have back : ∀ l : List Nat, (l.map one).map (fun y => y.cps.toList.headD 0) = l := by
    intro l
    rw [List.map_map]
    exact (List.map_congr_left fun c _ => rfl).trans (List.map_id l)
  have e : ss = (ss.map (fun y => y.cps.toList.headD 0)).map one := by
    rw [List.map_map]
    refine ((List.map_congr_left fun y hy => ?_).trans (List.map_id ss)).symm
    obtain ⟨c, _, q⟩ := List.mem_map.mp (p.mem_iff.mp hy)
    subst q
    rfl
  have pm : (ss.map (fun y => y.cps.toList.headD 0)).Perm acc := by
    have q := p.map (fun y => y.cps.toList.headD 0)
    rw [back] at q
    exact q
  refine ⟨_, e, pm, ?_⟩
  generalize ss.map (fun y => y.cps.toList.headD 0) = ns at e pm ⊢
  subst e
  have h1 := List.pairwise_map.mp (pairwise_of_sortedS _ hs)
  have h2 : ns.Nodup := pm.nodup_iff.mpr hn
  have h3 : ns.Pairwise (· ≠ ·) := h2
  refine List.Pairwise.imp₂ (fun x y a b => ?_) h1 h3
  have c := lt_one a
  omega

theorem sorted_text {a : Addr} {acc : List Nat} {Q : Value → Shared → Prop} (R : At w s.heap a (acc.map one)) (hn : acc.Nodup) (hh : A.handled = none) (h64 : acc.length < 64)
    (hQ : ∀ z p (out : Array Value) (c : Nat) (ns : List Nat), (∀ b o, s.heap.get? b = some o → z.heap.get? b = some o) → z.gens = s.gens → z.os = s.os → s.heap.objs.size ≤ p →
      z.heap.get? p = some (seqObj "list" out c) → StrsAre out.toList (ns.map one) → ns.Pairwise (· < ·) → ns.Perm acc → Q (.ref p) z) :
    wpAny (model P w) A (call (.builtin "sorted") [.ref a]) Q E s := by
  obtain ⟨o, es, ep, t, ho, hx, hd, g, pm, hb, hf, hr, hl⟩ := R
  refine Calls.call_function_entry kind_sorted plain_sorted entry_sorted (args_sorted1 _) ?_
  unfold Builtin.«sorted»
  refine wpAny_bind (m := checkCount "sorted" 1 1 _) (wpAny_pure ?_)
  refine wpAny_bind (collect_set (A := A.in1) hh ⟨o, ho, hx.1, hd⟩ hf hb hr hl fun s1 vs k1 hz g1 o1 pv => ?_)
  obtain ⟨hS, ps⟩ := vals_strs (w := w) g pv
  have ps2 := ps.trans pm
  have hvl : vs.length < 64 := by
    have q := ps2.length_eq
    rw [List.length_map, List.length_map] at q
    rw [q]; exact h64
  refine wpAny_bind (wpAny_newList ?_ (by rw [sizeLine_eq]; omega))
  have hoL : (s1.heap.push (seqObj "list" vs.toArray 0)).get? s1.heap.objs.size = some (seqObj "list" vs.toArray 0) := Heap.get?_push_size _ rfl
  refine wpAny_bind (wpAny_holding (wpAny_call_entry slot_list_sort ⟨_, hoL, rfl⟩ entry_list_sort
    (list_sort_treeK strKind_oneLt hoL hS.keysOf (fun v₁ v₂ rest e => keyKind_strs (by rw [← e]; exact hS)) hvl fun st' hp hs => ⟨_, rfl, ?_⟩) (args_list_sort _)))
  obtain ⟨ss, b1, b2, b3⟩ := sorted_out_str hS hp hs
  obtain ⟨ns, e, pn, ris⟩ := rising (b2.trans ps2) b3 hn
  subst e
  obtain ⟨c, hc⟩ := sortedHeap_at (vs := vs) (out := (arrOf st').map (·.2)) hoL
  refine wpAny_pure ⟨_, rfl, hQ _ s1.heap.objs.size _ c ns (fun b u e => ?_) g1 o1 hz hc b1 ris pn⟩
  have q := k1 b u e
  have hlt := Heap.lt_size q
  show (sortedHeap (s1.heap.push (seqObj "list" vs.toArray 0)) s1.heap.objs.size vs _).get? b = some u
  rw [sortedHeap_old (Nat.ne_of_lt hlt) (by rw [size_push']; exact Nat.lt_succ_of_lt hlt)]
  exact Heap.get?_push_of_some _ q
end
end Tx
set_option Elab.async false
set_option linter.all false
set_option maxRecDepth 100000
set_option maxHeartbeats 3200000
/-! defs that show data by repr: what is known of a call's guards goes along -/
namespace Tg
open PySem PySem.Spec PyProof.Rows L2

/-- nothing is being shown where the call stands -/
abbrev Still (A : Around) : Prop := A.guards = some []

/-- a def's promise, kept where nothing is being shown -/
structure Kept (P : Program) (w : World) (K : PySem.W.Frag) (mg : Str → Option Value) (base : Heap) (cx : CXT) (k : Nat) (f : Addr) (fd : FuncData) (ps : List Str) (sp : Sp) : Prop where
  long : ∀ xs H Q E, sp xs H Q E → xs.length = ps.length
  goes : ∀ (A : Around) (out : List Env) (s : Shared) (H : Hp) (args : Args) (us : List Value) (xs : List V) (Q : VK) (E : XK), Room k A → Still A → Env0 P w K mg base A out s H →
    BindsTo s fd args (ps.zip us) → Vals xs us → sp xs H Q E → codeAny (model P w) A (.call (.ref f) args) (CR cx out P w H s Q E) s

section
variable {P : Program} {w : World} {K : PySem.W.Frag} {mg : Str → Option Value} {base : Heap}
theorem Kept.ok {cx : CXT} {k : Nat} {f : Addr} {name qual : Str} {params : Arguments} {body : List Stmt} {scope : Scope} {dV kV doc pm cdv ct oc : Value} {an od : Option Addr}
    {osl : Array (Option Value)} {N ps : List Str} {sp : Sp}
    (look : K.lookup f = some ⟨oc, od, .func (PySem.W.fnOf name qual params body scope dV kV doc pm an cdv ct), osl⟩)
    (code : PySem.W.codeIn K cdv qual = true) (S : FnScope N ps scope) (long : ∀ xs H Q E, sp xs H Q E → xs.length = ps.length)
    (inner : ∀ (A : Around) (out : List Env) (s : Shared) (H : Hp) (xs : List V) (Q : VK) (E : XK), Room k (A.deeper (envOfC qual scope s.heap.objs.size f cdv)) →
      Still (A.deeper (envOfC qual scope s.heap.objs.size f cdv)) → sp xs H Q E →
      ∃ t, PSs (cxOf cx P w K mg base N qual scope f cdv A out s H E) body t ∧ t { nx := fun _ H2 => Q .non H2, rt := Q } (start N xs) H) :
    Kept P w K mg base cx (k + 1) f (PySem.W.fnOf name qual params body scope dV kV doc pm an cdv ct) ps sp where
  long := long
  goes := by
    intro A out s H args us xs Q E room still e0 bound rel hsp
    have hl := long _ _ _ _ hsp
    have inK : K.In s.heap := e0.mod.kin.keeps fun b o e => (e0.bs b o e).1
    have limit : s.heap.NoLimit := e0.mod.nolimit.keeps fun b o e => (e0.bs b o e).1
    have kinds : ∀ y ∈ ps.zip us, scope.names.lookup y.1 = some .local ∨
        (scope.names.lookup y.1 = some .cell ∧ ((cellsFrom (s.heap.objs.size + 1) scope.names []).lookup y.1).isSome = true) := by
      rintro ⟨n, v⟩ hy
      cases S.par n (List.of_mem_zip hy).1 with
      | inl q => exact .inl q
      | inr q => exact .inr ⟨q, PySem.W.cellsFrom_some _ _ _ (.inl q)⟩
    refine codeAny_call_function room.depth (inK _ _ look) rfl S.co S.gen rfl (PySem.W.codeRec_of inK code) (bound _ _ _ _ ?_)
    refine wpAny_newFunctionEnv_cells S.kind kinds fun env he z x => ?_
    subst he
    refine ⟨limit.keeps x.toInCall.keep, codeAny_func ?_⟩
    obtain ⟨t, ht, hq⟩ := inner A out s H xs Q E (room.deeper _) still hsp
    have J0 : Inv (cxOf cx P w K mg base N qual scope f cdv A out s H E) [] (start N xs) H z := inv_start S room.hd e0 hl rel x
    refine wpAny_mono (ht.run [] z (start N xs) H _ J0 hq) (fun fl z' hs => ?_) fun e z' hs => hs
    have close : ∀ {σ' : L2.St} {H2 : Hp} {v : V} {u : Value}, Inv (cxOf cx P w K mg base N qual scope f cdv A out s H E) [] σ' H2 z' → RelV v u → Q v H2 → CE out P w H s Q u z' := by
      intro σ' H2 v u J rv q
      exact ⟨v, H2, J.os, J.bare, J.base, J.hok, rv, q⟩
    cases fl with
    | ret u =>
      obtain ⟨v, σ', H2, J, rv, q⟩ := hs
      exact close J rv q
    | next =>
      obtain ⟨σ', H2, J, q⟩ := hs
      exact close (v := V.non) (u := Value.none) J rfl q
    | brk =>
      obtain ⟨_, _, _, q⟩ := hs
      exact q.elim
    | cont =>
      obtain ⟨_, _, _, q⟩ := hs
      exact q.elim

/-- for a def of the text that lets nothing out -/
theorem Kept.fn {x qual : Str} {st : Stmt} {f : Addr} {fd : FuncData} {N ps : List Str} {k : Nat} {sp : Sp} (F : Fun K x qual st f fd) (S : FnScope N ps (defScope st))
    (long : ∀ xs H Q E, sp xs H Q E → xs.length = ps.length)
    (inner : ∀ (cdv : Value) (A : Around) (out : List Env) (s : Shared) (H : Hp) (xs : List V) (Q : VK) (E : XK), Room k (A.deeper (envOfC qual (defScope st) s.heap.objs.size f cdv)) →
      Still (A.deeper (envOfC qual (defScope st) s.heap.objs.size f cdv)) → sp xs H Q E →
      ∃ t, PSs (cxOf CX0 P w K mg base N qual (defScope st) f cdv A out s H E).nox (defBody st) t ∧ t { nx := fun _ H2 => Q .non H2, rt := Q } (start N xs) H) :
    Kept P w K mg base CX0 (k + 1) f fd ps sp := by
  obtain ⟨oc, od, kV, doc, pm, an, cdv, ct, osl, e, look, code⟩ := F.ex
  subst e
  refine Kept.ok look code S long fun A out s H xs Q E room still hsp => ?_
  obtain ⟨t, h, q⟩ := inner cdv A out s H xs Q E room still hsp
  exact ⟨t, h.nox, q⟩
end

section
variable {X : Cx} {cx : CXT} {k : Nat} {f : Addr} {fd : FuncData} {ps : List Str} {sp : Sp} {dvs : List V} {ds : List Value} {E : XK} {x : Str} {p pos : Pos} {e : Expr} {es : List Expr} {t : TA}
theorem Kept.runs {pins : List (Addr × Obj)} {σ : L2.St} {H : Hp} {s : Shared} {Q : VK} {us : List Value} {xs : List V} (F : Kept X.prog X.w X.K X.mg X.base cx k f fd ps sp) (room : Room k X.A) (still : Still X.A)
    (hb : Binds X.K fd ps ds) (hd : Vals dvs ds) (hx : Passes cx X E) (I : Inv X pins σ H s) (r : Vals xs us) (h : sp (xs ++ dvs) H Q E) :
    wpAny (model X.prog X.w) X.A (call (.ref f) us) (EP X pins σ Q) X.xe s := by
  have r2 : Vals (xs ++ dvs) (us ++ ds) := r.append hd
  have hl : (us ++ ds).length = ps.length := r2.length.symm.trans (F.long _ _ _ _ h)
  refine wpAny_call (codeAny_mono (F.goes X.A X.stack s H ⟨us, []⟩ (us ++ ds) (xs ++ dvs) Q E room still I.env0 (hb s us I.kIn hl) r2 h) fun r z hq => ?_)
  match r, hq with
  | .error e, hq => exact hx pins σ H s e z I hq
  | .ok (.ret u), hq => exact I.after hq
  | .ok .next, hq => exact False.elim hq
  | .ok .brk, hq => exact False.elim hq
  | .ok .cont, hq => exact False.elim hq
/-- f(e, ..) of such a def -/
theorem pe_callG (F : Kept X.prog X.w X.K X.mg X.base cx k f fd ps sp) (room : Room k X.A) (still : Still X.A) (hg : Gl X x) (hm : X.mg x = some (.ref f)) (hk : PySem.W.keepIn X.K (.ref f) = true)
    (hb : Binds X.K fd ps ds) (hd : Vals dvs ds) (hx : Passes cx X E) (ha : PA X (e :: es) t) (hdb : (x == ("__debug__" : Str)) = false := by decide)
    (he : starEach (e :: es) X.env = (false, eval e X.env) :: starEach es X.env := by rfl) (hpl : (backTo pos (starEach es X.env)).any (·.1) = false := by rfl) :
    PE X (.Call (.Name x p) (e :: es) [] pos) (tCall sp dvs E t) := by
  constructor
  intro pins s σ H Q I h
  refine wpAny_Call_Name_kw (ld_glob I hg hm ?_ hdb)
  refine PySem.W.callWith_K (h₀ := X.base) I.ok.mod.kin hk ?_ he hpl
  exact thn (ha.run pos pins s σ H _ I h) fun us z ⟨xs, H1, J, r, q⟩ => ⟨J.kIn, F.runs room still hb hd hx J r q⟩

/-- data as it stands in the abstract heap: none, bools, ints, texts, lists, tuples, and dicts of texts and ints -/
inductive Data (K : PySem.W.Frag) (H : Hp) : V → PyData → Prop
  | flat {v : V} {d : PyData} (h : Dp K H v d) (n : d.hasDict = false) : Data K H v d
  | dict {a : Addr} {kvs : List (Str × Int)} (h : H a = some (.dK (kvs.map fun p => (Sum.inr p.1, V.int p.2)))) : Data K H (.ref a) (.dict (kvs.map fun p => (.str p.1, .int p.2)))

theorem keys_flat (h : Heap) : ∀ (kvs : List (Str × Int)) (es : List DictEntry) (vs : List (Key × Value)), Pairs (mixKind X.prog X.w) es vs → KV (kvs.map fun p => (Sum.inr p.1, V.int p.2)) vs →
    ReadsAll h (es.map (·.key)) ((kvs.map fun p => ((PyData.str p.1, PyData.int p.2) : PyData × PyData)).map (·.1)) [] ∧ ReadsAll h (es.map (·.val)) ((kvs.map fun p => ((PyData.str p.1, PyData.int p.2) : PyData × PyData)).map (·.2)) [] := by
  intro kvs
  induction kvs with
  | nil =>
    intro es vs hp rel
    cases rel
    cases hp
    exact ⟨.nil, .nil⟩
  | cons p kvs ih =>
    intro es vs hp rel
    cases rel with
    | @cons _ kv _ vs' r1 r2 =>
      cases hp with
      | @cons e _ es' _ hk hv hp' =>
        obtain ⟨q1, q2⟩ := ih _ _ hp' r2
        obtain ⟨k0, v0⟩ := kv
        obtain ⟨r3, r4⟩ := r1
        dsimp only at r3 r4 hk hv
        subst r3
        obtain ⟨t, r4⟩ := r4
        rcases keyIs_shape (show keyIs (Sum.inr p.1 : Key) e.key = true from hk) with ⟨i, t', z, _⟩ | ⟨x, t', z, e'⟩
        · cases z
        · cases z
          refine ⟨?_, ?_⟩
          · show ReadsAll h (e.key :: _) (PyData.str p.1 :: _) ([] ++ [])
            rw [e']
            exact .cons (.str _ _) q1
          · show ReadsAll h (e.val :: _) (PyData.int p.2 :: _) ([] ++ [])
            rw [hv, r4]
            exact .cons (.int _ _) q2
theorem Data.reads {pins : List (Addr × Obj)} {σ : L2.St} {H : Hp} {s : Shared} (I : Inv X pins σ H s) {v : V} {u : Value} {d : PyData} (h : Data X.K H v d) (r : RelV v u) :
    ∃ as, Reads s.heap u d as ∧ (d.hasDict = true → sysModules ∉ as) := by
  cases h with
  | flat h n =>
    obtain ⟨as, q⟩ := Dp.reads I d v u h r
    exact ⟨as, q, fun z => by rw [n] at z; cases z⟩
  | @dict a kvs h =>
    cases r
    obtain ⟨hz, hs, vs, rel, o, es, ep, ho, hx, hd, _, hp, _⟩ := I.hok a _ h
    obtain ⟨q1, q2⟩ := keys_flat (X := X) s.heap kvs _ _ hp rel
    refine ⟨_, Reads.dict ho hx.1 hd q1 q2, fun _ z => ?_⟩
    simp only [List.append_nil, List.mem_singleton] at z
    rw [z] at hs
    simp at hs

/-- repr(x) -/
def rShow (K : PySem.W.Frag) : List V → Hp → VK → Prop := fun xs H Q => ∃ (x : V) (d : PyData), xs = [x] ∧ Data K H x d ∧ d.showable = true ∧ d.depth < 60 ∧ d.shown.length ≤ sizeLine ∧ Q (.str d.shown) H
theorem call_show (still : Still X.A) (hu : X.A.units + 64 < cLine) : CallR X (.builtin "repr") (rShow X.K) := by
  intro pins s σ H xs us Q I r h
  obtain ⟨x, d, rfl, hd, h1, h3, h4, q⟩ := h
  obtain ⟨u, rfl, r1⟩ : ∃ u, us = [u] ∧ RelV x u := by
    cases r with
    | cons a b => cases b; exact ⟨_, rfl, a⟩
  obtain ⟨as, rd, hsm⟩ := Data.reads I hd r1
  cases rd with
  | none => exact P.repr_of_none ⟨.str (PyData.shown .none), H, I.tok _, ⟨_, rfl⟩, q⟩
  | bool b => exact P.repr_of_bool ⟨.str (PyData.shown (.bool b)), H, I.tok _, ⟨_, rfl⟩, q⟩
  | int i t => exact P.repr_of_int (of_decide_eq_true h1) ⟨.str (PyData.shown (.int i)), H, I.tok _, ⟨_, rfl⟩, q⟩
  | str z t => exact P.repr_of_str ⟨.str (PyData.shown (.str z)), H, I.tok _, ⟨_, rfl⟩, q⟩ h4
  | list a1 a2 a3 a4 => exact repr_of_reads' (Reads.list a1 a2 a3 a4) h1 hsm still (by omega) (fun _ _ e => e) (fun h' u tk hk => ⟨.str (PyData.shown _), H, I.kept (t' := tk) hk, ⟨_, rfl⟩, q⟩) h4
  | tuple a1 a2 a3 a4 => exact repr_of_reads' (Reads.tuple a1 a2 a3 a4) h1 hsm still (by omega) (fun _ _ e => e) (fun h' u tk hk => ⟨.str (PyData.shown _), H, I.kept (t' := tk) hk, ⟨_, rfl⟩, q⟩) h4
  | dict a1 a2 a3 a4 a5 => exact repr_of_reads' (Reads.dict a1 a2 a3 a4 a5) h1 hsm still (by omega) (fun _ _ e => e) (fun h' u tk hk => ⟨.str (PyData.shown _), H, I.kept (t' := tk) hk, ⟨_, rfl⟩, q⟩) h4
end

/-! ### the head: the law's call, nothing being shown -/
section
variable {P : Program} {w : World} {K : PySem.W.Frag} {mg mb : Str → Option Value} {cx : CXT} {k : Nat} {fa a : Addr} {fd : FuncData} {x : Str} {sp : Sp} {s₁ : Shared} {vs : List Value} {ns : List Int}
/-- from one abstract heap in which at most the script stands -/
theorem law_core (KX : K.In s₁.heap) (hns : s₁.heap.Ns mainGlobals mg) (hb : s₁.heap.Ns builtinsNs mb) (hbb : ∀ x : Str, x ≠ "__name__" → mb x = bootBuiltins x) (hlim : s₁.heap.NoLimit) (hg : s₁.gens = #[])
    (ha : s₁.heap.get? a = some { cls := .type "list", data := .seq vs.toArray }) (room : Room k callerA)
    (F : ∀ base : Heap, K.In base → base.Ns mainGlobals mg → Kept P w K mg base cx k fa fd [x] sp) (hbind : ∀ (s : Shared) (u : Value), BindsTo s fd ⟨[u], []⟩ [(x, u)])
    (hcx : ∀ H e z, cx [] H s₁ (fun _ _ _ => False) e z → False)
    (H : Hp) (only : Only H) (want : sp [.ref a] H (fun v _ => v = .bl true) fun _ _ _ => False) (hok : HOk P w H s₁.heap) (at_a : ∀ b, H b ≠ none → b = a) (notK : H a ≠ none → K.lookup a = none) :
    codeAny (model P w) callerA (.call (.ref fa) ⟨[.ref a], []⟩) (fun r z => r = .ok (.ret (.bool true)) ∧ OldK s₁.heap z.heap ∧ z.os = s₁.os ∧ AllBare z.gens) s₁ := by
  have under : ∀ {b : Addr} {o : Obj}, s₁.heap.get? b = some o → H b = none → (hidT s₁.heap H).get? b = some o := fun e n => hidT_get e n
  have away : ∀ {b : Addr}, (b = a → False) → H b = none := by
    intro b n
    cases q : H b with
    | none => rfl
    | some u => exact (n (at_a b (by rw [q]; simp))).elim
  have noDict : ∀ {b : Addr} {o : Obj} {es : Array DictEntry} {ep : Nat}, s₁.heap.get? b = some o → o.data = .dict es ep → H b = none := by
    intro b o es ep e d
    refine away fun z => ?_
    subst z
    rw [ha] at e
    cases e
    cases d
  have names : ∀ {b : Addr} {m : Str → Option Value}, s₁.heap.Ns b m → (hidT s₁.heap H).Ns b m := by
    rintro b m ⟨o, es, ep, e, d, r⟩
    exact ⟨o, es, ep, under e (noDict e d), d, r⟩
  have inB : K.In (hidT s₁.heap H) := by
    intro b o e
    refine under (KX b o e) ?_
    cases q : H b with
    | none => rfl
    | some u =>
      have z := at_a b (by rw [q]; simp)
      subst z
      have n := notK (by rw [q]; simp)
      rw [n] at e
      cases e
  have md : Mod K mg (hidT s₁.heap H) := ⟨inB, names hns, ⟨mb, names hb, hbb⟩, let ⟨mc, h1, h2⟩ := hlim; ⟨mc, names h1, h2⟩⟩
  have e0 : Env0 P w K mg (hidT s₁.heap H) callerA [] s₁ H := by
    refine ⟨rfl, md, fun b o e => of_hidT e, Nat.le_of_eq (hidT_size _ _), trivial, fun b hb => ?_, hok, .of_eq hg⟩
    exact absurd (show b ∈ ([] : List Addr) from hb) (by simp)
  refine codeAny_mono ((F _ inB (names hns)).goes callerA [] s₁ H ⟨[.ref a], []⟩ [.ref a] [.ref a] _ _ room rfl e0 (hbind s₁ (.ref a)) (.cons rfl .nil) want) fun r z h => ?_
  match r, h with
  | .error e, h => exact (hcx H e z h).elim
  | .ok .next, h => exact False.elim h
  | .ok .brk, h => exact False.elim h
  | .ok .cont, h => exact False.elim h
  | .ok (.ret u), h =>
    obtain ⟨v, H2, os, bare, un, hok2, r2, q⟩ := h
    have q' : v = .bl true := q
    subst q'
    obtain rfl : u = Value.bool true := r2
    refine ⟨rfl, OldK.of_keep fun b o e => ?_, os, bare⟩
    cases q : H b with
    | none =>
      refine un.keep b o e q (fun y => ?_) (by simp)
      exact absurd (show b ∈ ([] : List Addr) from y) (by simp)
    | some u =>
      rcases only b with y | ⟨ob, xs, y⟩
      · rw [q] at y
        cases y
      · have y2 := un.frzs b ob _ y
        obtain ⟨e1, _⟩ := hok b _ y
        obtain ⟨e2, _⟩ := hok2 b _ y2
        rw [e] at e1
        cases e1
        exact e2

theorem law_call (KX : K.In s₁.heap) (hns : s₁.heap.Ns mainGlobals mg) (hb : s₁.heap.Ns builtinsNs mb) (hbb : ∀ x : Str, x ≠ "__name__" → mb x = bootBuiltins x) (hlim : s₁.heap.NoLimit) (hg : s₁.gens = #[])
    (ha : s₁.heap.get? a = some { cls := .type "list", data := .seq vs.toArray }) (hi : IntsAre vs ns) (hl : ns.length ≤ sizeLine) (room : Room k callerA)
    (F : ∀ base : Heap, K.In base → base.Ns mainGlobals mg → Kept P w K mg base cx k fa fd [x] sp) (hbind : ∀ (s : Shared) (u : Value), BindsTo s fd ⟨[u], []⟩ [(x, u)])
    (hsp : ∀ H : Hp, Only H → SqL K H a (ns.map V.int) → sp [.ref a] H (fun v _ => v = .bl true) fun _ _ _ => False)
    (hcx : ∀ H e z, cx [] H s₁ (fun _ _ _ => False) e z → False) :
    codeAny (model P w) callerA (.call (.ref fa) ⟨[.ref a], []⟩) (fun r z => r = .ok (.ret (.bool true)) ∧ OldK s₁.heap z.heap ∧ z.os = s₁.os ∧ AllBare z.gens) s₁ := by
  have rel := vals_ints hi
  have len := hi.length
  have core := law_core KX hns hb hbb hlim hg ha room F hbind hcx
  cases hk : K.lookup a with
  | some o =>
    have e := KX a o hk
    rw [ha] at e
    cases e
    have only : Only (fun _ => none) := fun _ => .inl rfl
    refine core (fun _ => none) only (hsp _ only ?_) (fun b u z => nomatch (show (none : Option HO) = some u from z)) (fun b z => absurd rfl z) fun z => absurd rfl z
    exact .inr ⟨_, vs.toArray, _, hk, rfl, rfl, rfl, by rw [List.size_toArray, len]; exact hl, by simpa using rel⟩
  | none =>
    have only : Only (fun b => if b = a then some (.frz { cls := .type "list", data := .seq vs.toArray } (.lst (ns.map V.int))) else none) := by
      intro b
      by_cases z : b = a
      · exact .inr ⟨_, _, if_pos z⟩
      · exact .inl (if_neg z)
    refine core _ only (hsp _ only ?_) (fun b u z => ?_) (fun b z => ?_) fun _ => hk
    · exact .inl (.inr ⟨{ cls := .type "list", data := .seq vs.toArray }, if_pos rfl⟩)
    · by_cases y : b = a
      · have z' := (if_pos y).symm.trans z
        cases z'
        subst y
        exact ⟨ha, by rw [List.length_map]; exact hl, vs, _, rel, ha⟩
      · have z' := (if_neg y).symm.trans z
        cases z'
    · by_cases y : b = a
      · exact y
      · exact absurd (if_neg y) z
end

/-- the goal that the head leaves -/
theorem walk {l : PySem.W.OpenLaw} {n k : Nat} {q : Program} {loose : List Str} {XP : (Str → Option Value) → Heap → Prop} {YP : World → Heap → Prop} {d : DefRec} {K : Params → PySem.W.Frag} {cx : World → CXT} {sp : World → Sp} {x : Str}
    (hn : l.most = some n) (hn2 : n ≤ sizeLine) (hdf : d.params.defaults = []) (room : Room k callerA) (hY : ∀ (w : World) (h : Heap), YP w h → (K w.params).In h)
    (F : ∀ (w : World) (mg : Str → Option Value) (fa : Addr) (h : Heap), (K w.params).In h → h.Ns mainGlobals mg → mg d.name = some (.ref fa) → XP mg h →
      ∃ fd : FuncData, (∀ (s : Shared) (u : Value), BindsTo s fd ⟨[u], []⟩ [(x, u)]) ∧
        ∀ base : Heap, (K w.params).In base → base.Ns mainGlobals mg → Kept l.prog w (K w.params) mg base (cx w) k fa fd [x] (sp w))
    (hsp : ∀ (w : World) (H : Hp) (a : Addr) (ns : List Int), ns.length ≤ n → Only H → SqL (K w.params) H a (ns.map V.int) → sp w [.ref a] H (fun v _ => v = .bl true) fun _ _ _ => False)
    (hcx : ∀ (w : World) (H : Hp) (s : Shared) (e : Value) (z : Shared), cx w [] H s (fun _ _ _ => False) e z → False) :
    PySem.W.WalkO q loose XP YP l.row.toRowW d [] (fun f vs => PySem.call f vs) := by
  refine Att.attach_call hn hdf ?_
  intro w s₀ s₁ mg mb fa o pm cd doc a vs ns G Y ho hd hcd hmg hobj hints hlen hg
  have KX := hY w _ Y
  obtain ⟨fd, hb, hF⟩ := F w mg fa _ KX G.T.g hmg G.X
  exact law_call KX G.T.g G.T.b G.T.builtins G.T.nolimit hg hobj hints (Nat.le_trans hlen hn2) room hF hb (fun H hO hS => hsp w H a ns hlen hO hS) fun H e z => hcx w H s₁ e z
end Tg
set_option Elab.async false
set_option linter.all false
set_option maxRecDepth 100000
set_option maxHeartbeats 3200000
/-! set(a text), sorted(it), list(a text), as rules -/
namespace Tx
open PySem PySem.Spec PyProof.Rows L2

/-- the signs of a text, each once, rising -/
def ups (l : List Nat) : List Nat := (met [] l).mergeSort (fun a b => decide (a ≤ b))
theorem ups_perm (l : List Nat) : (ups l).Perm (met [] l) := List.mergeSort_perm _ _
theorem ups_mem (l : List Nat) (c : Nat) : c ∈ ups l ↔ c ∈ l := by
  rw [(ups_perm l).mem_iff, met_mem]
  simp
theorem ups_nodup (l : List Nat) : (ups l).Nodup := (ups_perm l).nodup_iff.mpr (met_nodup l [] List.nodup_nil)
theorem ups_up (l : List Nat) : (ups l).Pairwise (· < ·) := by
  have h1 : (ups l).Pairwise (fun a b => decide (a ≤ b) = true) :=
    List.pairwise_mergeSort (le := fun a b : Nat => decide (a ≤ b)) (fun a b c h1 h2 => by
      have h1' := of_decide_eq_true h1
      have h2' := of_decide_eq_true h2
      exact decide_eq_true (Nat.le_trans h1' h2')) (fun a b => by
      rcases Nat.le_total a b with z | z
      · simp [z]
      · simp [z]) (met [] l)
  have h2 : (ups l).Pairwise (· ≠ ·) := ups_nodup l
  refine List.Pairwise.imp₂ (fun x y a b => ?_) h1 h2
  have a' := of_decide_eq_true a
  omega
theorem up_eq : ∀ {l m : List Nat}, l.Pairwise (· < ·) → m.Pairwise (· < ·) → (∀ c, c ∈ l ↔ c ∈ m) → l = m
  | [], [], _, _, _ => rfl
  | [], y :: m, _, _, h => by have := (h y).mpr List.mem_cons_self; simp at this
  | x :: l, [], _, _, h => by have := (h x).mp List.mem_cons_self; simp at this
  | x :: l, y :: m, h1, h2, h => by
    obtain ⟨a1, a2⟩ := List.pairwise_cons.mp h1
    obtain ⟨b1, b2⟩ := List.pairwise_cons.mp h2
    have e : x = y := by
      rcases List.mem_cons.mp ((h x).mp List.mem_cons_self) with z | z
      · exact z
      · rcases List.mem_cons.mp ((h y).mpr List.mem_cons_self) with u | u
        · exact u.symm
        · have := a1 y u
          have := b1 x z
          omega
    subst e
    rw [up_eq a2 b2 fun c => ?_]
    constructor
    · intro q
      rcases List.mem_cons.mp ((h c).mp (List.mem_cons_of_mem _ q)) with z | z
      · subst z
        exact absurd (a1 _ q) (Nat.lt_irrefl _)
      · exact z
    · intro q
      rcases List.mem_cons.mp ((h c).mpr (List.mem_cons_of_mem _ q)) with z | z
      · subst z
        exact absurd (b1 _ q) (Nat.lt_irrefl _)
      · exact z
theorem ups_of {l ns : List Nat} (h : ns.Pairwise (· < ·)) (p : ns.Perm (met [] l)) : ns = ups l :=
  up_eq h (ups_up l) fun c => by rw [p.mem_iff, ups_mem, met_mem]; simp

/-- one-sign texts as values -/
abbrev ones (l : List Nat) : List V := l.map fun c => V.str (one c)
theorem ones_map (l : List Nat) : ones l = (l.map one).map V.str := by rw [List.map_map]; rfl

/-- the set of texts at a -/
def TO (w : World) (a : Addr) (acc : List Nat) : HO := .ext fun h => At w h a (acc.map one)
section
variable {X : Cx}
theorem to_new {w : World} {P : Program} {H : Hp} {h : Heap} {a : Addr} {acc : List Nat} (R : At w h a (acc.map one)) : ObjOk P w H h a (TO w a acc) :=
  ⟨R, let ⟨o, _, _, _, ho, _⟩ := R; ⟨o, ho⟩, fun _ _ p k => At.stays p k⟩
/-- set(s), s a text of few different signs -/
def rSetTx (w : World) : List V → Hp → VK → Prop := fun xs H Q => ∃ z : Str, xs = [.str z] ∧ (met [] z.cps.toList).length < 64 ∧ ∀ p, H p = none → Q (.ref p) (upd H p (TO w p (met [] z.cps.toList)))
theorem cr_setTx (hc : X.calm = true) : CallR X (.type "set") (rSetTx X.w) := by
  intro pins s σ H xs us Q I r h
  obtain ⟨z, rfl, hf, q⟩ := h
  obtain ⟨t, rfl⟩ : ∃ t, us = [Value.str z t] := by
    cases r with
    | cons a b =>
      cases b
      obtain ⟨t, rfl⟩ := a
      exact ⟨t, rfl⟩
  have hb : (met [] z.cps.toList).length + 1 < scanBound := by
    have : (64 : Nat) + 1 < scanBound := by decide
    omega
  refine call_set_text (P := X.prog) (w := X.w) (I.ok.hd hc) hb fun h' tk R k => ?_
  exact ⟨.ref _, upd H s.heap.objs.size (TO X.w s.heap.objs.size (met [] z.cps.toList)), I.laid (t' := tk) k (Nat.le_refl _) (to_new R), rfl, q _ (I.hok.fresh (Nat.le_refl _))⟩
/-- sorted(a set of texts) -/
def rSortTx (w : World) : List V → Hp → VK → Prop := fun xs H Q => ∃ (a : Addr) (l : List Nat), xs = [.ref a] ∧ H a = some (TO w a (met [] l)) ∧ (met [] l).length < 64 ∧ ∀ p, H p = none → Q (.ref p) (upd H p (.lst (ones (ups l))))
theorem cr_sortTx (hc : X.calm = true) : CallR X (.builtin "sorted") (rSortTx X.w) := by
  intro pins s σ H vs us Q I r h
  obtain ⟨a, l, rfl, ha, h64, q⟩ := h
  have R : At X.w s.heap a ((met [] l).map one) := (I.hok a _ ha).1
  rw [Vals.ref1 r]
  refine sorted_text (P := X.prog) R (met_nodup l [] List.nodup_nil) (I.ok.hd hc) h64 fun z p out c ns k g o hp hg hS up pm => ?_
  obtain rfl := ups_of up pm
  have hlen : (ones (ups l)).length ≤ sizeLine := by
    rw [List.length_map, pm.length_eq, sizeLine_eq]
    omega
  have hn : H p = none := I.hok.fresh hp
  have hv : Vals (ones (ups l)) out.toList := by rw [ones_map]; exact vals_of_strs hS
  have J : Inv X pins σ (upd H p (.lst (ones (ups l)))) { s with heap := z.heap, gens := z.gens, drawn := z.drawn, toks := z.toks } :=
    I.call (ch := []) (Un.laid k hp hn) (I.hok.laid k hp ⟨hlen, out.toList, c, hv, hg⟩) (by rw [g]; exact I.bare) (fun _ y => nomatch y)
  have e : z = { s with heap := z.heap, gens := z.gens, drawn := z.drawn, toks := z.toks } := by
    cases z
    cases s
    cases o
    rfl
  rw [e]
  exact ⟨.ref p, _, J, rfl, q p hn⟩
/-- list(s), s a text -/
def rListTx : List V → Hp → VK → Prop := fun xs H Q => ∃ z : Str, xs = [.str z] ∧ z.length ≤ sizeLine ∧ ∀ p, H p = none → Q (.ref p) (upd H p (.lst (ones z.cps.toList)))
theorem signs_vals {z : Str} {acc : Array Value} (h : ItemsOf (SignAt z) acc z.cps.size) : Vals (ones z.cps.toList) acc.toList := by
  have all : ∀ (l : List Nat) (us : List Value), us.length = l.length → (∀ (j : Nat) (v : Value), us[j]? = some v → ∃ (c : Nat) (u : Tok), l[j]? = some c ∧ v = Value.str (one c) u) → Vals (ones l) us := by
    intro l
    induction l with
    | nil =>
      intro us hl _
      cases us with
      | nil => exact .nil
      | cons u us => simp at hl
    | cons c l ih =>
      intro us hl hg
      cases us with
      | nil => simp at hl
      | cons u us =>
        obtain ⟨d, t, h1, h2⟩ := hg 0 u rfl
        have e : c = d := Option.some.inj h1
        subst e
        refine .cons ⟨t, h2⟩ (ih us (by simpa using hl) fun j v hv => ?_)
        exact hg (j + 1) v hv
  refine all _ _ (by rw [Array.length_toList, Array.length_toList]; exact h.1) fun j v hv => ?_
  rw [Array.getElem?_toList] at hv
  obtain ⟨c, u, h1, h2⟩ := h.2 j v hv
  exact ⟨c, u, by rw [Array.getElem?_toList]; exact h1, h2⟩
theorem cr_listTx (hc : X.calm = true) : CallR X (.type "list") rListTx := by
  intro pins s σ H xs us Q I r h
  obtain ⟨z, rfl, hl, q⟩ := h
  cases r with
  | cons a b =>
    cases b
    obtain ⟨t, rfl⟩ := a
    refine call_list_str (I.ok.hd hc) z t (hn := hl) fun h' tk acc c k hg hi => ?_
    have hz : (ones z.cps.toList).length ≤ sizeLine := by
      rw [List.length_map, Array.length_toList]
      exact hl
    exact ⟨.ref _, upd H s.heap.objs.size (.lst (ones z.cps.toList)), I.laid (t' := tk) k (Nat.le_refl _) ⟨hz, acc.toList, c, signs_vals hi, by simpa using hg⟩, rfl, q _ (I.hok.fresh (Nat.le_refl _))⟩
/-- a ** b, the result below 2 ^ 27 bits -/
theorem op_powW : OpR X (binaryOp .Pow) (rI (fun i j => 0 ≤ j ∧ (Builtin.Int.intBits i : Int) * j ≤ 2 ^ 27) fun i j => .int (i ^ j.toNat)) := opI fun _ _ _ _ _ _ _ hc q => pow_int hc.1 hc.2 q
end
end Tx
set_option Elab.async false
set_option linter.all false
set_option maxRecDepth 100000
set_option maxHeartbeats 3200000
/-! what the judges are worth, over plain data -/
namespace Tm
open PySem PySem.Spec PySem.Builtin PySem.Builtin.Str PyProof.Rows L2 Tx

abbrev cds (z : Str) : List Nat := z.cps.toList
theorem cds_ext {y z : Str} (h : cds y = cds z) : y = z := by
  cases y with
  | mk a =>
    cases z with
    | mk b =>
      have e : a = b := Array.toList_inj.mp h
      rw [e]
theorem cds_len (z : Str) : (cds z).length = z.length := by
  show z.cps.toList.length = z.cps.size
  rw [Array.length_toList]
/-- every sign of z is one of sg -/
def only (z sg : Str) : Bool := (cds z).all fun c => decide (c ∈ cds sg)
theorem only_iff {z sg : Str} : only z sg = true ↔ ∀ c ∈ cds z, c ∈ cds sg := by
  unfold only
  rw [List.all_eq_true]
  exact ⟨fun h c hc => of_decide_eq_true (h c hc), fun h c hc => decide_eq_true (h c hc)⟩
theorem getD_mem {z : Str} {k : Nat} (h : k < z.length) : z.cps.getD k 0 ∈ cds z := by
  have h' : k < z.cps.size := h
  have e : z.cps.getD k 0 = z.cps[k] := by simp [Array.getD, h']
  rw [e]
  exact Array.getElem_mem_toList h'
theorem mem_getD {z : Str} {c : Nat} (h : c ∈ cds z) : ∃ k, k < z.length ∧ z.cps.getD k 0 = c := by
  obtain ⟨k, hk, e⟩ := List.getElem_of_mem h
  have hk' : k < z.cps.size := by rw [Array.length_toList] at hk; exact hk
  refine ⟨k, hk', ?_⟩
  rw [← e]
  simp [Array.getD, hk']
theorem goes_iff {sg : Str} {c : Nat} : sg.cps.contains c = true ↔ c ∈ cds sg := by
  rw [Array.contains_iff_mem, Array.mem_toList_iff]
/-- strip with all the signs of sg leaves nothing exactly if there is no other sign -/
theorem strip_only (z sg : Str) : decide (Txt.stripChars z sg = Str.empty) = only z sg := by
  unfold Txt.stripChars
  rw [stripBy_eq]
  obtain ⟨a1, a2, a3⟩ := lo_facts sg.cps.contains z
  obtain ⟨b1, b2, b3, b4⟩ := hi_facts sg.cps.contains z _ a1
  generalize stripLo sg.cps.contains true z = lo at a1 a2 a3 b1 b2 b3 b4 ⊢
  generalize stripHi sg.cps.contains true z lo = hi at b1 b2 b3 b4 ⊢
  have key : strSub z lo hi = Str.empty ↔ lo = hi := by
    constructor
    · intro h
      have e : (z.cps.extract lo hi).size = 0 := by
        have := congrArg (fun y : Str => y.cps.size) h
        exact this
      rw [Array.size_extract] at e
      have hb : hi ≤ z.cps.size := b2
      omega
    · intro h
      subst h
      refine cds_ext ?_
      show (z.cps.extract lo lo).toList = (Str.empty).cps.toList
      rw [Array.extract_empty_of_stop_le_start (Nat.le_refl _)]
      rfl
  by_cases h : only z sg = true
  · rw [h]
    refine decide_eq_true (key.mpr ?_)
    have all := only_iff.mp h
    rcases Nat.lt_or_ge lo z.length with hl | hl
    · exfalso
      rcases a3 with e | e
      · omega
      · have := goes_iff.mpr (all _ (getD_mem hl))
        rw [e] at this
        cases this
    · have c2 : hi ≤ z.length := b2
      omega
  · have h' : only z sg = false := by simpa using h
    rw [h']
    refine decide_eq_false fun q => h (only_iff.mpr fun c hc => ?_)
    have e := key.mp q
    obtain ⟨k, hk, rfl⟩ := mem_getD hc
    rcases Nat.lt_or_ge k lo with u | u
    · exact goes_iff.mp (a2 k u)
    · exact goes_iff.mp (b3 k (by omega) hk)

/-! ### the judges -/
def big : Int := 10 ^ 200
def isInt : PyData → Bool
  | .int n => decide (n.natAbs < 10 ^ 200)
  | _ => false
def has (sg : Str) (most : Nat) : PyData → Bool
  | .str z => decide (z.length ≤ most) && only z sg
  | _ => false
def alpha : Str := "abcdefghijklmnopqrstuvwxyz"
def name : PyData → Bool
  | .str z => decide (z.length ≤ 8) && only z alpha && decide (z ≠ Str.empty)
  | _ => false
def rise (z : Str) : Bool := decide (cds z = ups (cds z))
def letters : PyData → Bool
  | .str z => decide (z.length ≤ 3) && only z alpha && decide (z ≠ Str.empty) && rise z
  | _ => false
def prime : PyData → Bool
  | .int n => decide (n = 2 ∨ n = 3 ∨ n = 5 ∨ n = 7)
  | _ => false
def lows (z : Str) : Bool := (cds z).all fun c => decide (97 ≤ c) && decide (c ≤ 122)
def small (most : Nat) : PyData → Bool
  | .str z => decide (1 ≤ z.length) && decide (z.length ≤ most) && lows z
  | _ => false
theorem alpha_iff (c : Nat) : c ∈ cds alpha ↔ 97 ≤ c ∧ c ≤ 122 := by
  have e : cds alpha = (List.range 26).map (· + 97) := by decide +kernel
  rw [e, List.mem_map]
  constructor
  · rintro ⟨k, hk, rfl⟩
    have := List.mem_range.mp hk
    omega
  · rintro ⟨h1, h2⟩
    exact ⟨c - 97, List.mem_range.mpr (by omega), by omega⟩
theorem only_alpha (z : Str) : only z alpha = lows z := by
  unfold only lows
  congr 1
  funext c
  by_cases h : c ∈ cds alpha
  · have := (alpha_iff c).mp h
    simp [h, this.1, this.2]
  · have h2 : ¬ (97 ≤ c ∧ c ≤ 122) := fun q => h ((alpha_iff c).mpr q)
    rw [decide_eq_false h, ← Bool.decide_and, decide_eq_false h2]
theorem nonempty_iff (z : Str) : z ≠ Str.empty ↔ 1 ≤ z.length := by
  constructor
  · intro h
    rcases Nat.eq_zero_or_pos z.length with e | e
    · exfalso
      apply h
      apply cds_ext
      have : (cds z).length = 0 := by rw [cds_len]; exact e
      rw [List.length_eq_zero_iff.mp this]
      rfl
    · exact e
  · intro h e
    subst e
    exact absurd h (by decide)
theorem name_small (d : PyData) : name d = small 8 d := by
  cases d with
  | str z =>
    show (decide (z.length ≤ 8) && only z alpha && decide (z ≠ Str.empty)) = (decide (1 ≤ z.length) && decide (z.length ≤ 8) && lows z)
    rw [only_alpha, decide_eq_decide.mpr (nonempty_iff z)]
    cases decide (z.length ≤ 8) <;> cases lows z <;> cases decide (1 ≤ z.length) <;> rfl
  | _ => rfl
theorem letters_small (d : PyData) : letters d = (small 3 d && (match d with | .str z => rise z | _ => false)) := by
  cases d with
  | str z =>
    show (decide (z.length ≤ 3) && only z alpha && decide (z ≠ Str.empty) && rise z) = (decide (1 ≤ z.length) && decide (z.length ≤ 3) && lows z && rise z)
    rw [only_alpha, decide_eq_decide.mpr (nonempty_iff z)]
    cases decide (z.length ≤ 3) <;> cases lows z <;> cases decide (1 ≤ z.length) <;> cases rise z <;> rfl
  | _ => rfl

/-! ### how numbers and texts are shown -/
theorem shown_int {n k : Int} (h : (toString n : String) = toString k) : n = k := by
  have e := congrArg String.toInt? h
  simpa using e

/-- a text that is judged: short, plain signs, few unlike ones -/
structure Fine (z : Str) : Prop where
  long : z.length ≤ 4001
  few : (met [] (cds z)).length < 64
  plain : ∀ c ∈ cds z, c < 128
/-- the four texts of the primes -/
abbrev four : List V := [.str "2", .str "3", .str "5", .str "7"]
/-- data that is judged -/
def Ok : PyData → Prop
  | .int n => n.natAbs.log2 < 1920
  | .str z => Fine z
  | d => d.showable = true ∧ d.depth < 60 ∧ d.shown.length ≤ sizeLine ∧ inV (.str d.shown) four = false
end Tm
set_option Elab.async false
set_option linter.all false
set_option maxRecDepth 100000
set_option maxHeartbeats 3200000
namespace K0
open PySem L2 Tx Tg Tm
def top (i : Nat) : Stmt := PySem.Challenge.pw_whatcounts_k00_integers_texts_and_primes.main.body.getD i (.Pass ⟨0, 0, 0, 0⟩)
abbrev sInt : Stmt := top 13
abbrev sName : Stmt := top 14
abbrev sLetters : Stmt := top 15
abbrev sText : Stmt := top 16
abbrev sSigned : Stmt := top 17
abbrev sPattern : Stmt := top 18
abbrev sPrime : Stmt := top 19
abbrev sCheck : Stmt := top 20
abbrev sHas : Stmt := top 21
abbrev sCup : Stmt := top 23
abbrev sBit : Stmt := top 24
abbrev sPick : Stmt := top 25
abbrev sSigns : Stmt := top 26
abbrev sSmall : Stmt := top 27
abbrev sAre : Stmt := top 28
abbrev sMade : Stmt := top 29
abbrev sDue : Stmt := top 30
abbrev sValues : Stmt := top 31
abbrev sJudged : Stmt := top 32
abbrev sRefused : Stmt := top 33
abbrev sLaw : Stmt := top 34

/-! ### values -/
inductive Val (H : Hp) : V → PyData → Prop
  | non : Val H .non .none
  | bl (b : Bool) : Val H (.bl b) (.bool b)
  | int (n : Int) : Val H (.int n) (.int n)
  | str (z : Str) : Val H (.str z) (.str z)
  | lst {a : Addr} (l : List Str) (h : H a = some (.lst (l.map V.str))) : Val H (.ref a) (.list (l.map PyData.str))
  | tup {a : Addr} (l : List Str) (h : H a = some (.tup (l.map V.str))) : Val H (.ref a) (.tuple (l.map PyData.str))
  | tupI {a : Addr} (l : List Int) (h : H a = some (.tup (l.map V.int))) : Val H (.ref a) (.tuple (l.map PyData.int))
  | dct {a : Addr} (kvs : List (Str × Int)) (h : H a = some (.dK (kvs.map fun p => (Sum.inr p.1, V.int p.2)))) : Val H (.ref a) (.dict (kvs.map fun p => (.str p.1, .int p.2)))
theorem Val.same {H H' : Hp} {v : V} {d : PyData} (s : Same H H') (h : Val H v d) : Val H' v d := by
  cases h with
  | non => exact .non
  | bl b => exact .bl b
  | int n => exact .int n
  | str z => exact .str z
  | lst l h => exact .lst l (s _ _ h)
  | tup l h => exact .tup l (s _ _ h)
  | tupI l h => exact .tupI l (s _ _ h)
  | dct l h => exact .dct l (s _ _ h)
def intTy : PyData → Bool
  | .int _ => true
  | .bool _ => true
  | _ => false
def strTy : PyData → Bool
  | .str _ => true
  | _ => false
def blTy : PyData → Bool
  | .bool _ => true
  | _ => false
theorem k_NoneType_int : kitB "NoneType" "int" = some false := by decide +kernel
theorem k_NoneType_str : kitB "NoneType" "str" = some false := by decide +kernel
theorem k_NoneType_bool : kitB "NoneType" "bool" = some false := by decide +kernel
theorem k_bool_int : kitB "bool" "int" = some true := by decide +kernel
theorem k_bool_str : kitB "bool" "str" = some false := by decide +kernel
theorem k_bool_bool : kitB "bool" "bool" = some true := by decide +kernel
theorem k_int_int : kitB "int" "int" = some true := by decide +kernel
theorem k_int_str : kitB "int" "str" = some false := by decide +kernel
theorem k_int_bool : kitB "int" "bool" = some false := by decide +kernel
theorem k_str_int : kitB "str" "int" = some false := by decide +kernel
theorem k_str_str : kitB "str" "str" = some true := by decide +kernel
theorem k_str_bool : kitB "str" "bool" = some false := by decide +kernel
theorem k_list_int : kitB "list" "int" = some false := by decide +kernel
theorem k_list_str : kitB "list" "str" = some false := by decide +kernel
theorem k_list_bool : kitB "list" "bool" = some false := by decide +kernel
theorem k_tuple_int : kitB "tuple" "int" = some false := by decide +kernel
theorem k_tuple_str : kitB "tuple" "str" = some false := by decide +kernel
theorem k_tuple_bool : kitB "tuple" "bool" = some false := by decide +kernel
theorem k_dict_int : kitB "dict" "int" = some false := by decide +kernel
theorem k_dict_str : kitB "dict" "str" = some false := by decide +kernel
theorem k_dict_bool : kitB "dict" "bool" = some false := by decide +kernel
theorem Val.ty {K : PySem.W.Frag} {H : Hp} {v : V} {d : PyData} (h : Val H v d) : ∃ t, TyX K H v t ∧ PySem.W.kitOne K t (.type "int") = some (intTy d) ∧ PySem.W.kitOne K t (.type "str") = some (strTy d) ∧ PySem.W.kitOne K t (.type "bool") = some (blTy d) := by
  cases h with
  | non => exact ⟨_, .base .non, kit_ty k_NoneType_int, kit_ty k_NoneType_str, kit_ty k_NoneType_bool⟩
  | bl b => exact ⟨_, .base (.bl b), kit_ty k_bool_int, kit_ty k_bool_str, kit_ty k_bool_bool⟩
  | int n => exact ⟨_, .base (.int n), kit_ty k_int_int, kit_ty k_int_str, kit_ty k_int_bool⟩
  | str z => exact ⟨_, .base (.str z), kit_ty k_str_int, kit_ty k_str_str, kit_ty k_str_bool⟩
  | lst l h => exact ⟨_, .base (.lst h), kit_ty k_list_int, kit_ty k_list_str, kit_ty k_list_bool⟩
  | tup l h => exact ⟨_, .base (.tup h), kit_ty k_tuple_int, kit_ty k_tuple_str, kit_ty k_tuple_bool⟩
  | tupI l h => exact ⟨_, .base (.tup h), kit_ty k_tuple_int, kit_ty k_tuple_str, kit_ty k_tuple_bool⟩
  | dct l h => exact ⟨_, .base (.dK h), kit_ty k_dict_int, kit_ty k_dict_str, kit_ty k_dict_bool⟩

/-- what the walk asks of the module's names -/
structure Txt (K : PySem.W.Frag) (mg : Str → Option Value) : Prop where
  isi : mg "isinstance" = none
  int : mg "int" = none
  str : mg "str" = none
  bool : mg "bool" = none
  abs : mg "abs" = none
  len : mg "len" = none
  list : mg "list" = none
  set : mg "set" = none
  sorted : mg "sorted" = none
  repr : mg "repr" = none
  range : mg "range" = none
  max : mg "max" = none
  min : mg "min" = none
  long : ∃ t, mg "LEAST_TOO_LONG" = some (.int (10 ^ 200) t)
  alpha : ∃ t, mg "ALPHABET" = some (.str alpha t)
  mName : ∃ t, mg "MAX_NAME" = some (.int 8 t)
  mLet : ∃ t, mg "MAX_LETTERS" = some (.int 3 t)
  mText : ∃ t, mg "MAX_TEXT" = some (.int 4000 t)
  mPat : ∃ t, mg "MAX_PATTERN" = some (.int 400 t)
  mDig : ∃ t, mg "MAX_DIGITS" = some (.int 200 t)
  mDep : ∃ t, mg "MAX_DEPTH" = some (.int 5 t)
  primes : ∃ p, mg "PRIMES" = some (.ref p) ∧ ∀ H, SqT K H p [.int 2, .int 3, .int 5, .int 7]

theorem fine_line {z : Str} (h : Fine z) : z.length ≤ sizeLine := Nat.le_trans h.long (by decide)

/-! ### the program's judges -/
def spHas : Sp := fun vs H Q _ => ∃ (v : V) (d : PyData) (sg : Str) (m : Nat), vs = [v, .str sg, .int m] ∧ Val H v d ∧ Ok d ∧ Q (.bl (has sg m d)) H
section
variable {P : Program} {w : World} {K : PySem.W.Frag} {mg : Str → Option Value} {base : Heap}
theorem scHas : FnScope ["value", "signs", "most"] ["value", "signs", "most"] (defScope sHas) := ⟨rfl, rfl, rfl, by decide +kernel, rfl, by decide +kernel, by decide +kernel⟩
theorem ok_has {f : Addr} {fd : FuncData} (F : Fun K "has_only" "has_only" sHas f fd) (T : Txt K mg) : FnOk P w K mg base CX0 1 f fd ["value", "signs", "most"] spHas := by
  refine F.ok scHas (fun vs H Q E h => ?_) (fun cdv A outer s H vs Q E hr h => ?_)
  · obtain ⟨v, d, sg, m, rfl, _⟩ := h
    rfl
  · obtain ⟨v, d, sg, m, rfl, hv, hd, q⟩ := h
    refine ⟨_, pss_one (ps_ret (pe_and (pe_callB call_isi (by rfl) T.isi (by decide +kernel) (pa_cons (pv 0) (pa_cons (pe_bltn (v := .ty "str") (by rfl) T.str (by decide +kernel) rfl) pa_nil)))
      (pe_and (pe_cmpR op_le (pe_callB call_len_str (by rfl) T.len PySem.boot_len (pa_cons (pv 0) pa_nil)) (pv 2) (nomark _))
      (pe_one (pe_cmpR op_eq (pe_bm PySem.F.plainAttrs_str PySem.F.slot_str_strip PySem.F.type_str_strip mt_stripChars (pv 0) (pa_cons (pv 1) pa_nil)) pe_str (nomark _)))))), ?_⟩
    obtain ⟨t, ty, _, k, _⟩ := Val.ty (K := K) hv
    refine ⟨_, rfl, _, _, _, _, _, rfl, .ty "str", ty, k, strTy d, rfl, ?_⟩
    cases hv with
    | str z =>
      have hz := fine_line (show Fine z from hd)
      refine iteT ?_
      refine ⟨_, rfl, z, rfl, hz, _, rfl, _, _, rfl, rfl, _, rfl, ?_⟩
      have e1 : decide ((z.length : Int) ≤ (m : Int)) = decide (z.length ≤ m) := decide_eq_decide.mpr (by omega)
      rw [e1]
      have e0 : has sg m (.str z) = (decide (z.length ≤ m) && only z sg) := rfl
      rw [e0] at q
      by_cases hm : z.length ≤ m
      · rw [decide_eq_true hm] at q ⊢
        refine iteT ?_
        refine ⟨_, rfl, rfl, _, rfl, z, sg, rfl, rfl, hz, rfl, ?_⟩
        have e2 : decide (V.str (Txt.stripChars z sg) = V.str (Str.ofString "")) = only z sg := by
          rw [← strip_only]
          exact decide_eq_decide.mpr ⟨fun e => by injection e, fun e => by rw [e]; rfl⟩
        rw [e2]
        exact q
      · rw [decide_eq_false hm] at q ⊢
        exact iteF q
    | _ => exact iteF q

def spInt : Sp := fun vs H Q _ => ∃ (v : V) (d : PyData), vs = [v] ∧ Val H v d ∧ Q (.bl (isInt d)) H
theorem scInt : FnScope ["value"] ["value"] (defScope sInt) := ⟨rfl, rfl, rfl, by decide +kernel, rfl, by decide +kernel, by decide +kernel⟩
theorem isInt_abs (n : Int) : decide ((if n < 0 then -n else n) < 10 ^ 200) = isInt (.int n) := by
  show _ = decide (n.natAbs < 10 ^ 200)
  have e : ((10 ^ 200 : Nat) : Int) = 10 ^ 200 := by norm_cast
  rw [← e]
  generalize (10 ^ 200 : Nat) = M
  refine decide_eq_decide.mpr ?_
  split <;> omega
theorem ok_int {f : Addr} {fd : FuncData} (F : Fun K "is_integer" "is_integer" sInt f fd) (T : Txt K mg) : FnOk P w K mg base CX0 1 f fd ["value"] spInt := by
  refine F.ok scInt (fun vs H Q E h => ?_) (fun cdv A outer s H vs Q E hr h => ?_)
  · obtain ⟨v, d, rfl, _⟩ := h
    rfl
  · obtain ⟨v, d, rfl, hv, q⟩ := h
    obtain ⟨tl, hl⟩ := T.long
    refine ⟨_, pss_one (ps_ret (pe_and (pe_callB call_isi (by rfl) T.isi (by decide +kernel) (pa_cons (pv 0) (pa_cons (pe_bltn (v := .ty "int") (by rfl) T.int (by decide +kernel) rfl) pa_nil)))
      (pe_and (pe_not (pe_callB call_isi (by rfl) T.isi (by decide +kernel) (pa_cons (pv 0) (pa_cons (pe_bltn (v := .ty "bool") (by rfl) T.bool (by decide +kernel) rfl) pa_nil))))
      (pe_one (pe_cmpR op_lt (pe_callB call_abs (by rfl) T.abs (by decide +kernel) (pa_cons (pv 0) pa_nil)) (pe_glob (v := .int (10 ^ 200)) rfl hl ⟨_, rfl⟩) (nomark _)))))), ?_⟩
    obtain ⟨t, ty, k1, _, k3⟩ := Val.ty (K := K) hv
    refine ⟨_, rfl, _, _, _, _, _, rfl, .ty "int", ty, k1, intTy d, rfl, ?_⟩
    cases hv with
    | int n =>
      refine iteT ⟨_, rfl, _, _, _, _, _, rfl, .ty "bool", ty, k3, _, rfl, _, rfl, iteT ?_⟩
      refine ⟨_, rfl, n, rfl, _, _, rfl, rfl, ?_⟩
      show Q (.bl (decide ((if n < 0 then -n else n) < 10 ^ 200))) H
      rw [isInt_abs]
      exact q
    | bl b => exact iteT ⟨_, rfl, _, _, _, _, _, rfl, .ty "bool", ty, k3, _, rfl, _, rfl, iteF q⟩
    | _ => exact iteF q

def spPrime : Sp := fun vs H Q _ => ∃ (v : V) (d : PyData), vs = [v] ∧ Val H v d ∧ Q (.bl (prime d)) H
theorem scPrime : FnScope ["value"] ["value"] (defScope sPrime) := ⟨rfl, rfl, rfl, by decide +kernel, rfl, by decide +kernel, by decide +kernel⟩
theorem in_primes (n : Int) : inV (.int n) [.int 2, .int 3, .int 5, .int 7] = prime (.int n) := by
  show _ = decide (n = 2 ∨ n = 3 ∨ n = 5 ∨ n = 7)
  have e : inV (.int n) [.int 2, .int 3, .int 5, .int 7] = ((2 : Int) == n || ((3 : Int) == n || ((5 : Int) == n || ((7 : Int) == n || false)))) := rfl
  rw [e, Bool.eq_iff_iff]
  simp only [Bool.or_eq_true, beq_iff_eq, decide_eq_true_eq, Bool.false_eq_true, or_false]
  omega
theorem ok_prime {f fI : Addr} {fd fdI : FuncData} (F : Fun K "is_prime" "is_prime" sPrime f fd) (T : Txt K mg) (FI : Fun K "is_integer" "is_integer" sInt fI fdI) (mI : mg "is_integer" = some (.ref fI)) (bI : Binds K fdI ["value"] []) :
    FnOk P w K mg base CX0 2 f fd ["value"] spPrime := by
  have GI : FnOk P w K mg base CX0 1 fI fdI ["value"] spInt := ok_int FI T
  refine F.ok scPrime (fun vs H Q E h => ?_) (fun cdv A outer s H vs Q E hr h => ?_)
  · obtain ⟨v, d, rfl, _⟩ := h
    rfl
  · obtain ⟨v, d, rfl, hv, q⟩ := h
    obtain ⟨pp, hp, hs⟩ := T.primes
    refine ⟨_, pss_one (ps_ret (pe_and (pe_call GI hr (by rfl) mI FI.kp bI .nil pass0 (pa_cons (pv 0) pa_nil))
      (pe_one (pe_cmpR op_in_seq (pv 0) (pe_glob (v := .ref pp) rfl hp rfl) (by rfl))))), ?_⟩
    refine ⟨_, rfl, v, d, rfl, hv, _, rfl, ?_⟩
    cases hv with
    | int n =>
      by_cases hb : isInt (.int n) = true
      · rw [hb]
        refine iteT ⟨_, rfl, pp, _, rfl, .inr (hs _), rfl, rfl, ?_⟩
        have e := in_primes n
        show Q (.bl (if false = true then _ else inV (.int n) _)) H
        rw [if_neg Bool.false_ne_true, e]
        exact q
      · have hb' : isInt (.int n) = false := by simpa using hb
        rw [hb']
        refine iteF ?_
        have e : prime (.int n) = false := by
          refine decide_eq_false fun z => hb (decide_eq_true ?_)
          have h7 : (7 : Nat) < 10 ^ 200 := by decide +kernel
          generalize (10 ^ 200 : Nat) = M at h7 ⊢
          omega
        rw [e] at q
        exact q
    | _ => exact iteF q
end
end K0
set_option Elab.async false
set_option linter.all false
set_option maxRecDepth 100000
set_option maxHeartbeats 3200000
namespace K0
open PySem L2 Tx Tg Tm

/-- a def of the text, found under its name -/
structure Df (K : PySem.W.Frag) (mg : Str → Option Value) (x : Str) (st : Stmt) (ps : List Str) (f : Addr) (fd : FuncData) : Prop where
  F : Fun K x x st f fd
  m : mg x = some (.ref f)
  b : Binds K fd ps []

/-! ### rows of one-sign texts as data -/
abbrev onesD (l : List Nat) : List PyData := l.map fun c => PyData.str (one c)
theorem all_ones (K : PySem.W.Frag) (H : Hp) : ∀ l : List Nat, DpAll K H (ones l) (onesD l)
  | [] => .nil
  | c :: l => .cons (.str _) (all_ones K H l)
theorem eqv_ones : ∀ l m : List Nat, PyData.eqvAll (onesD l) (onesD m) = decide (l = m)
  | [], [] => rfl
  | [], _ :: _ => rfl
  | _ :: _, [] => rfl
  | c :: l, d :: m => by
    show ((one c == one d) && PyData.eqvAll (onesD l) (onesD m)) = _
    rw [eqv_ones l m]
    by_cases h : c = d
    · subst h
      simp
    · have e : (one c == one d) = false := beq_eq_false_iff_ne.mpr fun q => h (one_inj q)
      rw [e]
      simp [h]
theorem lay_all (l : List Nat) (h : ∀ c ∈ l, c < 128) : PyData.canLayAll0 (onesD l) = true := by
  induction l with
  | nil => rfl
  | cons c l ih =>
    have hc := h c List.mem_cons_self
    have e1 : PyData.canLay0 (.str (one c)) = true := by
      show (one c).cps.all (· < 0x110000) = true
      simp
      omega
    show (PyData.canLay0 (.str (one c)) && PyData.canLayAll0 (onesD l)) = true
    rw [ih fun d hd => h d (List.mem_cons_of_mem _ hd), e1]
    rfl
theorem deep_all (l : List Nat) : PyData.depthAll (onesD l) ≤ 1 := by
  induction l with
  | nil => decide
  | cons c l ih =>
    show max _ (PyData.depthAll (onesD l)) ≤ 1
    exact Nat.max_le.mpr ⟨(by show 0 ≤ 1; decide), ih⟩
theorem shaped_ones (l : List Nat) (h : ∀ c ∈ l, c < 128) : SeqAt.shaped (.list (onesD l)) = true := by
  unfold SeqAt.shaped
  rw [Bool.and_eq_true]
  refine ⟨lay_all l h, decide_eq_true ?_⟩
  show PyData.depthAll (onesD l) + 1 ≤ 64
  have := deep_all l
  omega

section
variable {P : Program} {w : World} {K : PySem.W.Frag} {mg : Str → Option Value} {base : Heap}
theorem scName : FnScope ["value"] ["value"] (defScope sName) := ⟨rfl, rfl, rfl, by decide +kernel, rfl, by decide +kernel, by decide +kernel⟩
abbrev GH (P : Program) (w : World) (K : PySem.W.Frag) (mg : Str → Option Value) (base : Heap) (f : Addr) (fd : FuncData) : Prop := FnOk P w K mg base CX0 1 f fd ["value", "signs", "most"] spHas
def spName : Sp := fun vs H Q _ => ∃ (v : V) (d : PyData), vs = [v] ∧ Val H v d ∧ Ok d ∧ Q (.bl (name d)) H
theorem ok_name {f fH : Addr} {fd fdH : FuncData} (F : Fun K "is_name" "is_name" sName f fd) (T : Txt K mg) (DH : Df K mg "has_only" sHas ["value", "signs", "most"] fH fdH) :
    FnOk P w K mg base CX0 2 f fd ["value"] spName := by
  have G := ok_has (P := P) (w := w) (base := base) DH.F T
  refine F.ok scName (fun vs H Q E h => ?_) (fun cdv A outer s H vs Q E hr h => ?_)
  · obtain ⟨v, d, rfl, _⟩ := h
    rfl
  · obtain ⟨v, d, rfl, hv, hd, q⟩ := h
    obtain ⟨ta, ha⟩ := T.alpha
    obtain ⟨tn, hn⟩ := T.mName
    refine ⟨_, pss_one (ps_ret (pe_and (pe_call G hr (by rfl) DH.m DH.F.kp DH.b .nil pass0 (pa_cons (pv 0) (pa_cons (pe_glob (v := .str alpha) rfl ha ⟨_, rfl⟩) (pa_cons (pe_glob (v := .int 8) rfl hn ⟨_, rfl⟩) pa_nil))))
      (pe_one (pe_cmpR op_ne (pv 0) pe_str (nomark _))))), ?_⟩
    refine ⟨_, rfl, v, d, alpha, 8, rfl, hv, hd, _, rfl, ?_⟩
    cases hv with
    | str z =>
      have e0 : name (.str z) = (has alpha 8 (.str z) && decide (z ≠ Str.empty)) := rfl
      rw [e0] at q
      cases hb : has alpha 8 (.str z) with
      | true =>
        rw [hb] at q
        refine iteT ⟨_, rfl, rfl, ?_⟩
        have e : (!decide (V.str z = V.str (Str.ofString ""))) = decide (z ≠ Str.empty) := by
          rw [← decide_not]
          exact decide_eq_decide.mpr ⟨fun h e => h (by rw [e]; rfl), fun h e => h (by injection e)⟩
        show Q (.bl (!decide (V.str z = V.str (Str.ofString "")))) H
        rw [e]
        exact q
      | false =>
        rw [hb] at q
        exact iteF q
    | _ => exact iteF q

theorem scLetters : FnScope ["value"] ["value"] (defScope sLetters) := ⟨rfl, rfl, rfl, by decide +kernel, rfl, by decide +kernel, by decide +kernel⟩
def spLetters : Sp := fun vs H Q _ => ∃ (v : V) (d : PyData), vs = [v] ∧ Val H v d ∧ Ok d ∧ ∀ H', Same H H' → Q (.bl (letters d)) H'
theorem same_upd {H : Hp} {p : Addr} {o : HO} (h : H p = none) : Same H (upd H p o) := fun b u e => by
  rw [upd_ne (ne_of_none e h)]
  exact e
theorem ok_letters {f fH : Addr} {fd fdH : FuncData} (F : Fun K "is_letters" "is_letters" sLetters f fd) (T : Txt K mg) (DH : Df K mg "has_only" sHas ["value", "signs", "most"] fH fdH) :
    FnOk P w K mg base CX0 2 f fd ["value"] spLetters := by
  have G := ok_has (P := P) (w := w) (base := base) DH.F T
  refine F.ok scLetters (fun vs H Q E h => ?_) (fun cdv A outer s H vs Q E hr h => ?_)
  · obtain ⟨v, d, rfl, _⟩ := h
    rfl
  · obtain ⟨v, d, rfl, hv, hd, q⟩ := h
    obtain ⟨ta, ha⟩ := T.alpha
    obtain ⟨tn, hn⟩ := T.mLet
    refine ⟨_, pss_one (ps_ret (pe_and (pe_call G hr (by rfl) DH.m DH.F.kp DH.b .nil pass0 (pa_cons (pv 0) (pa_cons (pe_glob (v := .str alpha) rfl ha ⟨_, rfl⟩) (pa_cons (pe_glob (v := .int 3) rfl hn ⟨_, rfl⟩) pa_nil))))
      (pe_and (pe_cmpR op_ne (pv 0) pe_str (nomark _))
      (pe_one (pe_cmpR (op_eqD hr.units) (pe_callTy (cr_listTx rfl) (by rfl) T.list (by decide +kernel) (pa_cons (pv 0) pa_nil))
        (pe_callB (cr_sortTx rfl) (by rfl) T.sorted (by decide +kernel) (pa_cons (pe_callTy (cr_setTx rfl) (by rfl) T.set (by decide +kernel) (pa_cons (pv 0) pa_nil)) pa_nil)) (nomark _)))))), ?_⟩
    refine ⟨_, rfl, v, d, alpha, 3, rfl, hv, hd, _, rfl, ?_⟩
    cases hv with
    | str z =>
      have hz : Fine z := hd
      have e0 : letters (.str z) = (has alpha 3 (.str z) && decide (z ≠ Str.empty) && rise z) := rfl
      rw [e0] at q
      cases hb : has alpha 3 (.str z) with
      | true =>
        rw [hb] at q
        refine iteT ⟨_, rfl, rfl, ?_⟩
        have e : (!decide (V.str z = V.str (Str.ofString ""))) = decide (z ≠ Str.empty) := by
          rw [← decide_not]
          exact decide_eq_decide.mpr ⟨fun h e => h (by rw [e]; rfl), fun h e => h (by injection e)⟩
        refine ⟨_, rfl, ?_⟩
        rw [e]
        by_cases hne : z ≠ Str.empty
        · rw [decide_eq_true hne] at q ⊢
          refine iteT ?_
          refine ⟨_, rfl, z, rfl, fine_line hz, fun p1 n1 => ?_⟩
          refine ⟨_, rfl, z, rfl, hz.few, fun p2 n2 => ?_⟩
          refine ⟨p2, cds z, rfl, upd_same, hz.few, fun p3 n3 => ?_⟩
          have s1 : Same H (upd H p1 (.lst (ones (cds z)))) := same_upd n1
          have s2 := same_upd (o := TO w p2 (met [] (cds z))) n2
          have s3 := same_upd (o := .lst (ones (ups (cds z)))) n3
          have h1 := s3 _ _ (s2 _ _ (upd_same (H := H) (a := p1) (o := .lst (ones (cds z)))))
          refine ⟨.list (onesD (cds z)), .list (onesD (ups (cds z))), .lst (SqL.of h1) (all_ones _ _ _), .lst (SqL.of upd_same) (all_ones _ _ _), shaped_ones _ hz.plain, shaped_ones _ (fun c hc => hz.plain c ((ups_mem _ _).mp hc)), ?_⟩
          have e2 : PyData.eqv (.list (onesD (cds z))) (.list (onesD (ups (cds z)))) = rise z := eqv_ones _ _
          rw [e2]
          exact q _ ((s1.trans s2).trans s3)
        · have hne' : decide (z ≠ Str.empty) = false := decide_eq_false hne
          rw [hne'] at q ⊢
          exact iteF (q _ (Same.refl H))
      | false =>
        rw [hb] at q
        exact iteF (q _ (Same.refl H))
    | _ => exact iteF (q _ (Same.refl H))

/-- the error's class, as the top has made it -/
structure Ex (K : PySem.W.Frag) (mg : Str → Option Value) (C : Addr) : Prop where
  g : mg "InvalidLetters" = some (.ref C)
  x : PySem.W.excIn K C [.type "ValueError", .type "Exception", .type "BaseException", .type "object"] "ValueError.__new__" = true
  k : PySem.W.keepIn K (.ref C) = true
  b : PySem.W.subIn K (.ref C) (.type "BaseException") = some true
  t : PySem.W.typeIn K (.ref C) = some (.type "type")
  e : PySem.W.exmOne K (.ref C) (.ref C) = some true

theorem scCheck : FnScope ["value"] ["value"] (defScope sCheck) := ⟨rfl, rfl, rfl, by decide +kernel, rfl, by decide +kernel, by decide +kernel⟩
def spCheck (C : Addr) : Sp := fun vs H Q E => ∃ (v : V) (d : PyData), vs = [v] ∧ Val H v d ∧ Ok d ∧ ∀ H', Same H H' → if letters d = true then Q .non H' else E (.ref C) none H'
theorem ok_check {f fH fL C : Addr} {fd fdH fdL : FuncData} (F : Fun K "check_letters" "check_letters" sCheck f fd) (T : Txt K mg) (X : Ex K mg C) (DH : Df K mg "has_only" sHas ["value", "signs", "most"] fH fdH) (DL : Df K mg "is_letters" sLetters ["value"] fL fdL) :
    FnOk P w K mg base (L2.CX P w) 3 f fd ["value"] (spCheck C) := by
  have G := ok_letters (P := P) (w := w) (base := base) DL.F T DH
  refine F.okX scCheck (fun vs H Q E h => ?_) (fun cdv A outer s H vs Q E hr h => ?_)
  · obtain ⟨v, d, rfl, _⟩ := h
    rfl
  · obtain ⟨v, d, rfl, hv, hd, q⟩ := h
    refine ⟨_, pss_one (ps_if (pt_not (pt_val (pe_call G hr (by rfl) DL.m DL.F.kp DL.b .nil pass0 (pa_cons (pv 0) pa_nil))))
      (pss_one (ps_raise rfl (takes_of rfl rfl rfl rfl) (pmk_own PySem.F.excBase_ValueError X.x X.g X.k (raises_own X.b X.t) (by exact rfl)))) pss_nil), ?_⟩
    refine ⟨_, rfl, v, d, rfl, hv, hd, fun H' s' => ?_⟩
    have q' := q H' s'
    refine ⟨_, rfl, ?_⟩
    cases hb : letters d with
    | true =>
      rw [hb, if_pos rfl] at q'
      exact iteF q'
    | false =>
      rw [hb, if_neg Bool.false_ne_true] at q'
      exact iteT q'

/-! ### texts, signed texts, patterns -/
def spText (C : Addr) (most : Nat) : Sp := fun vs H Q E => ∃ (l v : V) (dl d : PyData), vs = [l, v] ∧ Val H l dl ∧ Ok dl ∧ Val H v d ∧ Ok d ∧ ∀ H', Same H H' →
  if letters dl = true then (∃ z, dl = .str z ∧ Q (.bl (has z most d)) H') else E (.ref C) none H'
theorem scText : FnScope ["letters", "value"] ["letters", "value"] (defScope sText) := ⟨rfl, rfl, rfl, by decide +kernel, rfl, by decide +kernel, by decide +kernel⟩
theorem ok_text {f fH fL fC C : Addr} {fd fdH fdL fdC : FuncData} (F : Fun K "is_text" "is_text" sText f fd) (T : Txt K mg) (X : Ex K mg C) (DH : Df K mg "has_only" sHas ["value", "signs", "most"] fH fdH)
    (DL : Df K mg "is_letters" sLetters ["value"] fL fdL) (DC : Df K mg "check_letters" sCheck ["value"] fC fdC) : FnOk P w K mg base (L2.CX P w) 4 f fd ["letters", "value"] (spText C 4000) := by
  have G := ok_check (P := P) (w := w) (base := base) DC.F T X DH DL
  have GH := ok_has (P := P) (w := w) (base := base) DH.F T
  refine F.okX scText (fun vs H Q E h => ?_) (fun cdv A outer s H vs Q E hr h => ?_)
  · obtain ⟨l, v, dl, d, rfl, _⟩ := h
    rfl
  · obtain ⟨l, v, dl, d, rfl, hl, hdl, hv, hd, q⟩ := h
    obtain ⟨tn, hn⟩ := T.mText
    refine ⟨_, pss_cons (ps_expr (pe_call G hr (by rfl) DC.m DC.F.kp DC.b .nil (passes_call (takes_of rfl rfl rfl rfl) fun _ _ _ _ h => h) (pa_cons (pv 0) pa_nil)))
      (pss_one (ps_ret (pe_call GH (hr.mono (by decide)) (by rfl) DH.m DH.F.kp DH.b .nil pass0 (pa_cons (pv 1) (pa_cons (pv 0) (pa_cons (pe_glob (v := .int 4000) rfl hn ⟨_, rfl⟩) pa_nil)))))), ?_⟩
    refine ⟨_, rfl, l, dl, rfl, hl, hdl, fun H' s' => ?_⟩
    have q' := q H' s'
    cases hb : letters dl with
    | true =>
      rw [hb, if_pos rfl] at q'
      obtain ⟨z, rfl, q'⟩ := q'
      rw [if_pos rfl]
      cases hl with
      | str z => exact ⟨_, rfl, _, rfl, v, d, z, 4000, rfl, hv.same s', hd, q'⟩
    | false =>
      rw [hb, if_neg Bool.false_ne_true] at q'
      rw [if_neg Bool.false_ne_true]
      exact q'
end
end K0
set_option Elab.async false
set_option linter.all false
set_option maxRecDepth 100000
set_option maxHeartbeats 3200000
namespace K0
open PySem L2 Tx Tg Tm
section
variable {P : Program} {w : World} {K : PySem.W.Frag} {mg : Str → Option Value} {base : Heap}
theorem letters_short {z : Str} (h : letters (.str z) = true) : z.length ≤ 3 := by
  have e0 : letters (.str z) = (decide (z.length ≤ 3) && only z alpha && decide (z ≠ Str.empty) && rise z) := rfl
  rw [e0, Bool.and_eq_true, Bool.and_eq_true, Bool.and_eq_true] at h
  exact of_decide_eq_true h.1.1.1
def both (z : Str) : Str := z ++ Txt.upper z
def spSigned (C : Addr) : Sp := fun vs H Q E => ∃ (l v : V) (dl d : PyData), vs = [l, v] ∧ Val H l dl ∧ Ok dl ∧ Val H v d ∧ Ok d ∧ ∀ H', Same H H' →
  if letters dl = true then (∃ z, dl = .str z ∧ Q (.bl (has (both z) 4000 d)) H') else E (.ref C) none H'
theorem scSigned : FnScope ["letters", "value"] ["letters", "value"] (defScope sSigned) := ⟨rfl, rfl, rfl, by decide +kernel, rfl, by decide +kernel, by decide +kernel⟩
theorem ok_signed {f fH fL fC C : Addr} {fd fdH fdL fdC : FuncData} (F : Fun K "is_signed" "is_signed" sSigned f fd) (T : Txt K mg) (X : Ex K mg C) (DH : Df K mg "has_only" sHas ["value", "signs", "most"] fH fdH)
    (DL : Df K mg "is_letters" sLetters ["value"] fL fdL) (DC : Df K mg "check_letters" sCheck ["value"] fC fdC) : FnOk P w K mg base (L2.CX P w) 4 f fd ["letters", "value"] (spSigned C) := by
  have G := ok_check (P := P) (w := w) (base := base) DC.F T X DH DL
  have GH := ok_has (P := P) (w := w) (base := base) DH.F T
  refine F.okX scSigned (fun vs H Q E h => ?_) (fun cdv A outer s H vs Q E hr h => ?_)
  · obtain ⟨l, v, dl, d, rfl, _⟩ := h
    rfl
  · obtain ⟨l, v, dl, d, rfl, hl, hdl, hv, hd, q⟩ := h
    obtain ⟨tn, hn⟩ := T.mText
    refine ⟨_, pss_cons (ps_expr (pe_call G hr (by rfl) DC.m DC.F.kp DC.b .nil (passes_call (takes_of rfl rfl rfl rfl) fun _ _ _ _ h => h) (pa_cons (pv 0) pa_nil)))
      (pss_one (ps_ret (pe_call GH (hr.mono (by decide)) (by rfl) DH.m DH.F.kp DH.b .nil pass0 (pa_cons (pv 1) (pa_cons
        (pe_op op_add_str (pv 0) (pe_bm0 PySem.F.plainAttrs_str PySem.F.slot_str_upper PySem.F.type_str_upper mt_upper (pv 0)))
        (pa_cons (pe_glob (v := .int 4000) rfl hn ⟨_, rfl⟩) pa_nil)))))), ?_⟩
    refine ⟨_, rfl, l, dl, rfl, hl, hdl, fun H' s' => ?_⟩
    have q' := q H' s'
    cases hb : letters dl with
    | true =>
      rw [hb, if_pos rfl] at q'
      obtain ⟨z, rfl, q'⟩ := q'
      rw [if_pos rfl]
      have hz := letters_short hb
      have hu := PyProof.Rows.len_upper z
      cases hl with
      | str z =>
        refine ⟨_, rfl, _, rfl, _, rfl, rfl, z, rfl, rfl, by omega, z, Txt.upper z, rfl, rfl, ?_, v, d, both z, 4000, rfl, hv.same s', hd, q'⟩
        exact Nat.le_trans (show z.length + (Txt.upper z).length ≤ 12 by omega) (by decide)
    | false =>
      rw [hb, if_neg Bool.false_ne_true] at q'
      rw [if_neg Bool.false_ne_true]
      exact q'
theorem scPattern : FnScope ["letters", "value"] ["letters", "value"] (defScope sPattern) := ⟨rfl, rfl, rfl, by decide +kernel, rfl, by decide +kernel, by decide +kernel⟩
theorem ok_pattern {f fH fL fC C : Addr} {fd fdH fdL fdC : FuncData} (F : Fun K "is_pattern" "is_pattern" sPattern f fd) (T : Txt K mg) (X : Ex K mg C) (DH : Df K mg "has_only" sHas ["value", "signs", "most"] fH fdH)
    (DL : Df K mg "is_letters" sLetters ["value"] fL fdL) (DC : Df K mg "check_letters" sCheck ["value"] fC fdC) : FnOk P w K mg base (L2.CX P w) 4 f fd ["letters", "value"] (spText C 400) := by
  have G := ok_check (P := P) (w := w) (base := base) DC.F T X DH DL
  have GH := ok_has (P := P) (w := w) (base := base) DH.F T
  refine F.okX scPattern (fun vs H Q E h => ?_) (fun cdv A outer s H vs Q E hr h => ?_)
  · obtain ⟨l, v, dl, d, rfl, _⟩ := h
    rfl
  · obtain ⟨l, v, dl, d, rfl, hl, hdl, hv, hd, q⟩ := h
    obtain ⟨tn, hn⟩ := T.mPat
    refine ⟨_, pss_cons (ps_expr (pe_call G hr (by rfl) DC.m DC.F.kp DC.b .nil (passes_call (takes_of rfl rfl rfl rfl) fun _ _ _ _ h => h) (pa_cons (pv 0) pa_nil)))
      (pss_one (ps_ret (pe_call GH (hr.mono (by decide)) (by rfl) DH.m DH.F.kp DH.b .nil pass0 (pa_cons (pv 1) (pa_cons (pv 0) (pa_cons (pe_glob (v := .int 400) rfl hn ⟨_, rfl⟩) pa_nil)))))), ?_⟩
    refine ⟨_, rfl, l, dl, rfl, hl, hdl, fun H' s' => ?_⟩
    have q' := q H' s'
    cases hb : letters dl with
    | true =>
      rw [hb, if_pos rfl] at q'
      obtain ⟨z, rfl, q'⟩ := q'
      rw [if_pos rfl]
      cases hl with
      | str z => exact ⟨_, rfl, _, rfl, v, d, z, 400, rfl, hv.same s', hd, q'⟩
    | false =>
      rw [hb, if_neg Bool.false_ne_true] at q'
      rw [if_neg Bool.false_ne_true]
      exact q'

/-! ### the law's drawer -/
/-- a drawer: three ints -/
def Cup (H : Hp) (c : Addr) : Prop := ∃ a0 a1 a2 : Int, H c = some (.lst [.int a0, .int a1, .int a2])
/-- all but what stands at c stays -/
def But (c : Addr) (H H' : Hp) : Prop := ∀ b o, b ≠ c → H b = some o → H' b = some o
theorem But.refl (c : Addr) (H : Hp) : But c H H := fun _ _ _ e => e
theorem But.trans {c : Addr} {H H1 H2 : Hp} (a : But c H H1) (b : But c H1 H2) : But c H H2 := fun x o n e => b x o n (a x o n e)
theorem But.of {c : Addr} {H H' : Hp} (s : Same H H') : But c H H' := fun b o _ e => s b o e
theorem But.put {c : Addr} {H : Hp} {o : HO} : But c H (upd H c o) := fun b u n e => by rw [upd_ne n]; exact e

def spCup (K : PySem.W.Frag) : Sp := fun vs H Q _ => ∃ (a : Addr) (ns : List Int) (k : Nat), vs = [.ref a, .int k] ∧ SqL K H a (ns.map V.int) ∧ ns.length ≤ 63 ∧ k ≤ 100 ∧ ∀ p H', H p = none → Same H H' → Cup H' p → Q (.ref p) H'
theorem scCup : FnScope ["_law_script", "_law_at", "_law_cell", "_law_great", "_law_blend"] ["_law_script", "_law_at"] (defScope sCup) := ⟨rfl, rfl, rfl, by decide +kernel, rfl, by decide +kernel, by decide +kernel⟩
theorem ok_cup {f : Addr} {fd : FuncData} (F : Fun K "_law_cup" "_law_cup" sCup f fd) (T : Txt K mg) : FnOk P w K mg base CX0 1 f fd ["_law_script", "_law_at"] (spCup K) := by
  refine F.ok scCup (fun vs H Q E h => ?_) (fun cdv A outer s H vs Q E hr h => ?_)
  · obtain ⟨a, ns, k, rfl, _⟩ := h
    rfl
  · obtain ⟨a, ns, k, rfl, hS, hlen, hk, q⟩ := h
    refine ⟨_, pss_cons (ps_set (i := 2) scCup.nd rfl (Or.inl rfl) (pe_ifExp (pt_cmpR op_lt (pv 1) (pe_callB call_len (by rfl) T.len PySem.boot_len (pa_cons (pv 0) pa_nil)) (nomark _))
        (pe_ix ix_list (pv 0) (pv 1) (fun _ _ => rfl)) (pe_op op_add (pe_op op_mul pe_int (pv 1)) pe_int)))
      (pss_cons (ps_set (i := 3) scCup.nd rfl (Or.inl rfl) (pe_op op_modN (pe_callTy call_int1 (by rfl) T.int (by decide +kernel) (pa_cons (pe_callB call_abs (by rfl) T.abs (by decide +kernel) (pa_cons (pv 2) pa_nil)) pa_nil))
        (pe_op op_powW (pe_op op_pow pe_int pe_int) pe_int)))
      (pss_cons (ps_set (i := 4) scCup.nd rfl (Or.inl rfl) (pe_op op_add (pe_op op_add (pe_op op_add
          (pe_op op_mul (pe_op op_modN (pe_callTy call_int1 (by rfl) T.int (by decide +kernel) (pa_cons (pv 3) pa_nil)) pe_int) pe_int) (pe_op op_mul pe_int (pv 1)))
          (pe_op op_mul pe_int (pe_callTy call_int1 (by rfl) T.int (by decide +kernel) (pa_cons (pe_cmpR op_lt (pv 2) pe_int (nomark _)) pa_nil)))) pe_int))
      (pss_one (ps_ret (pe_lst (pa_cons (pe_callB (call_max2 rfl) (by rfl) T.max (by decide +kernel) (pa_cons pe_int (pa_cons (pe_op op_sub (pv 3) (pe_op op_pow pe_int pe_int)) pa_nil)))
        (pa_cons (pe_op op_modN (pe_callTy call_int1 (by rfl) T.int (by decide +kernel) (pa_cons (pv 4) pa_nil)) pe_int) (pa_cons pe_int pa_nil)))))))), ?_⟩
    refine ⟨_, rfl, _, rfl, _, ns.length, rfl, .inl ⟨_, hS, by rw [List.length_map]⟩, _, _, rfl, rfl, _, rfl, ?_⟩
    refine ite2 (fun hc => ?_) (fun _ => ?_)
    · have hk2 : k < ns.length := by
        have := of_decide_eq_true hc
        omega
      refine ⟨_, rfl, _, rfl, a, _, _, .int ns[k], rfl, rfl, hS, atI_nat (by rw [List.getElem?_map, List.getElem?_eq_getElem hk2]; rfl), ?_⟩
      refine ⟨_, rfl, _, rfl, .inl ⟨_, rfl, _, _, rfl, rfl, ⟨by decide, by decide, by decide⟩, _, _, rfl, rfl, ⟨by decide, by decide +kernel⟩, _, _, rfl, rfl, (show (((10 : Int) ^ Int.toNat 61) ^ Int.toNat 11) ≠ 0 by decide +kernel), ?_⟩⟩
      refine ⟨_, rfl, .inl ⟨_, rfl, _, _, rfl, rfl, (show (2147483179 : Int) ≠ 0 by decide), _, _, rfl, rfl, .inr ⟨by decide, by decide⟩, _, rfl, _, _, rfl, rfl, .inl ⟨by decide, by decide⟩, _, _, rfl, rfl, _, rfl, _, _, rfl, rfl,
        .inr ⟨_, rfl, _, _, rfl, rfl, .inl ⟨by decide, by decide⟩, _, _, rfl, rfl, _, _, rfl, rfl, ?_⟩⟩⟩
      refine ⟨_, rfl, _, _, rfl, rfl, ⟨by decide, by decide, by decide⟩, _, _, rfl, rfl, _, _, rfl, _, rfl, .inl ⟨_, rfl, _, _, rfl, rfl, (show (2305843009213693907 : Int) ≠ 0 by decide), by show 3 ≤ sizeLine; decide, fun p hp => ?_⟩⟩
      exact q p _ hp (same_upd hp) ⟨_, _, _, upd_same⟩
    · refine ⟨_, rfl, _, _, rfl, rfl, .inl ⟨by decide, by decide⟩, _, _, rfl, rfl, ?_⟩
      refine ⟨_, rfl, _, rfl, .inl ⟨_, rfl, _, _, rfl, rfl, ⟨by decide, by decide, by decide⟩, _, _, rfl, rfl, ⟨by decide, by decide +kernel⟩, _, _, rfl, rfl, (show (((10 : Int) ^ Int.toNat 61) ^ Int.toNat 11) ≠ 0 by decide +kernel), ?_⟩⟩
      refine ⟨_, rfl, .inl ⟨_, rfl, _, _, rfl, rfl, (show (2147483179 : Int) ≠ 0 by decide), _, _, rfl, rfl, .inr ⟨by decide, by decide⟩, _, rfl, _, _, rfl, rfl, .inl ⟨by decide, by decide⟩, _, _, rfl, rfl, _, rfl, _, _, rfl, rfl,
        .inr ⟨_, rfl, _, _, rfl, rfl, .inl ⟨by decide, by decide⟩, _, _, rfl, rfl, _, _, rfl, rfl, ?_⟩⟩⟩
      refine ⟨_, rfl, _, _, rfl, rfl, ⟨by decide, by decide, by decide⟩, _, _, rfl, rfl, _, _, rfl, _, rfl, .inl ⟨_, rfl, _, _, rfl, rfl, (show (2305843009213693907 : Int) ≠ 0 by decide), by show 3 ≤ sizeLine; decide, fun p hp => ?_⟩⟩
      exact q p _ hp (same_upd hp) ⟨_, _, _, upd_same⟩

def spBit : Sp := fun vs H Q _ => ∃ (c : Addr) (m : Int), vs = [.ref c, .int m] ∧ Cup H c ∧ 0 < m ∧ m.natAbs < 2 ^ 9000 ∧ ∀ r H', 0 ≤ r → r < m → Cup H' c → But c H H' → Q (.int r) H'
theorem scBit : FnScope ["_law_cup_here", "_law_much", "_law_found", "_law_first", "_law_later"] ["_law_cup_here", "_law_much"] (defScope sBit) := ⟨rfl, rfl, rfl, by decide +kernel, rfl, by decide +kernel, by decide +kernel⟩
theorem ok_bit {f : Addr} {fd : FuncData} (F : Fun K "_law_bit" "_law_bit" sBit f fd) (T : Txt K mg) : FnOk P w K mg base CX0 1 f fd ["_law_cup_here", "_law_much"] spBit := by
  refine F.ok scBit (fun vs H Q E h => ?_) (fun cdv A outer s H vs Q E hr h => ?_)
  · obtain ⟨c, m, rfl, _⟩ := h
    rfl
  · obtain ⟨c, m, rfl, ⟨a0, a1, a2, hc⟩, hm, hm2, q⟩ := h
    refine ⟨_, pss_cons (ps_if (pt_cmpR op_gt (pe_ix ix_list (pv 0) pe_int (fun _ _ => rfl)) pe_int (nomark _))
        (pss_cons (ps_set (i := 2) scBit.nd rfl (Or.inl rfl) (pe_op op_modN (pe_callTy call_int1 (by rfl) T.int (by decide +kernel) (pa_cons (pe_ix ix_list (pv 0) pe_int (fun _ _ => rfl)) pa_nil)) (pv 1)))
        (pss_cons (ps_asg (pe_op op_fdivW (pe_ix ix_list (pv 0) pe_int (fun _ _ => rfl)) (pv 1)) (pg_sub (pv 0) pe_int set_list))
        (pss_one (ps_ret (pv 2))))) pss_nil)
      (pss_cons (ps_asg (pe_op op_add (pe_ix ix_list (pv 0) pe_int (fun _ _ => rfl)) pe_int) (pg_sub (pv 0) pe_int set_list))
      (pss_cons (ps_set (i := 3) scBit.nd rfl (Or.inl rfl) (pe_op op_modN (pe_callTy call_int1 (by rfl) T.int (by decide +kernel) (pa_cons (pe_op op_add (pe_ix ix_list (pv 0) pe_int (fun _ _ => rfl))
          (pe_op op_mul pe_int (pe_ix ix_list (pv 0) pe_int (fun _ _ => rfl)))) pa_nil)) pe_int))
      (pss_cons (ps_set (i := 4) scBit.nd rfl (Or.inl rfl) (pe_op op_add (pe_op op_mul (pe_op op_modN (pe_callTy call_int1 (by rfl) T.int (by decide +kernel) (pa_cons (pe_op op_mul (pv 3) (pv 3)) pa_nil)) pe_int) (pv 3))
          (pe_op op_mul pe_int (pe_ix ix_list (pv 0) pe_int (fun _ _ => rfl)))))
      (pss_one (ps_ret (pe_op op_modN (pe_callTy call_int1 (by rfl) T.int (by decide +kernel) (pa_cons (pe_op op_fdivN (pe_op op_modN (pe_callTy call_int1 (by rfl) T.int (by decide +kernel) (pa_cons (pv 4) pa_nil)) pe_int) pe_int) pa_nil)) (pv 1))))))), ?_⟩
    have at0 : ∀ {x y z : V}, atI [x, y, z] (0 : Int) = some x := rfl
    have at1 : ∀ {x y z : V}, atI [x, y, z] (1 : Int) = some y := rfl
    have at2 : ∀ {x y z : V}, atI [x, y, z] (2 : Int) = some z := rfl
    have rest : ∀ i : Int, 0 ≤ i.fmod m ∧ i.fmod m < m := fun i => by
      rw [Int.fmod_eq_emod_of_nonneg i (Int.le_of_lt hm)]
      exact ⟨Int.emod_nonneg i (Int.ne_of_gt hm), Int.emod_lt_of_pos i hm⟩
    refine ⟨_, rfl, c, _, _, _, rfl, rfl, SqL.of hc, at0, _, _, rfl, rfl, _, rfl, ?_⟩
    refine ite2 (fun _ => ?_) (fun _ => ?_)
    · refine ⟨_, rfl, c, _, _, _, rfl, rfl, SqL.of hc, at0, .inl ⟨_, rfl, _, rfl, _, _, rfl, rfl, (Int.ne_of_gt hm), ?_⟩⟩
      refine ⟨_, rfl, c, _, _, _, rfl, rfl, SqL.of hc, at0, _, rfl, _, _, rfl, rfl, wide_div hm hm2 (by decide) (by decide), ?_⟩
      refine ⟨_, rfl, c, _, _, 0, rfl, rfl, hc, rfl, ?_⟩
      exact ⟨_, rfl, q _ _ (rest _).1 (rest _).2 ⟨_, _, _, upd_same⟩ But.put⟩
    · refine ⟨_, rfl, c, _, _, _, rfl, rfl, SqL.of hc, at2, _, _, rfl, rfl, _, rfl, c, _, _, 2, rfl, rfl, hc, rfl, ?_⟩
      have hc2 : (upd H c (.lst ([.int a0, .int a1, .int a2].set 2 (.int (a2 + 1))))) c = some (.lst [.int a0, .int a1, .int (a2 + 1)]) := upd_same
      refine ⟨_, rfl, c, _, _, _, rfl, rfl, SqL.of hc2, at1, _, rfl, c, _, _, _, rfl, rfl, SqL.of hc2, at2, _, _, rfl, rfl, .inl ⟨by decide, by decide⟩, _, _, rfl, rfl, .inl ⟨_, rfl, _, _, rfl, rfl, (show (2305843009213693951 : Int) ≠ 0 by decide), ?_⟩⟩
      have f1 := Int.emod_nonneg (a1 + 1000541 * (a2 + 1)) (b := 2305843009213693951) (by decide)
      have f2 := Int.emod_lt_of_pos (a1 + 1000541 * (a2 + 1)) (b := 2305843009213693951) (by decide)
      rw [← Int.fmod_eq_emod_of_nonneg (a1 + 1000541 * (a2 + 1)) (b := 2305843009213693951) (by decide)] at f1 f2
      have f3 : -(2 ^ 64 : Int) < Int.fmod (a1 + 1000541 * (a2 + 1)) 2305843009213693951 ∧ Int.fmod (a1 + 1000541 * (a2 + 1)) 2305843009213693951 < 2 ^ 64 :=
        ⟨Int.lt_of_lt_of_le (by decide) f1, Int.lt_trans f2 (by decide)⟩
      refine ⟨_, rfl, _, rfl, _, _, rfl, rfl, .inl f3, .inl ⟨_, rfl, _, _, rfl, rfl, (show (2305843009213693921 : Int) ≠ 0 by decide), _, rfl, _, _, rfl, rfl, .inr f3, _, rfl, c, _, _, _, rfl, rfl, SqL.of hc2, at2,
        _, _, rfl, rfl, .inl ⟨by decide, by decide⟩, _, _, rfl, rfl, ?_⟩⟩
      refine ⟨_, rfl, .inl ⟨_, rfl, _, _, rfl, rfl, (show (2305843009213693907 : Int) ≠ 0 by decide), _, _, rfl, rfl, (show (16384 : Int) ≠ 0 ∧ (16384 : Int).natAbs < 1073741824 by decide), .inl ⟨_, rfl, _, rfl, _, _, rfl, rfl, (Int.ne_of_gt hm), ?_⟩⟩⟩
      exact q _ _ (rest _).1 (rest _).2 ⟨_, _, _, hc2⟩ But.put
end
end K0
set_option Elab.async false
set_option linter.all false
set_option maxRecDepth 100000
set_option maxHeartbeats 3200000
namespace K0
open PySem L2 Tx Tg Tm
/-- a comprehension over a text -/
theorem lc_text {x : Str} {g : TG} {tt : TT} {te : TE} {vs : List Nat} {σ : L2.St} {H1 : Hp} {D : Addr} {Qd : Hp → Prop} (Pv : Nat → Hp → Prop) (h0 : Pv 0 (upd H1 D (.lst [])))
    (hs : ∀ i c H, (cds x)[i]? = some c → Pv i H → g (.str (one c)) (wipe σ vs) H fun σ2 H2 => wipe σ2 vs = wipe σ vs ∧ tt σ2 H2 fun b H3 =>
      if b = true then te σ2 H3 fun y H4 => ∃ acc, H4 D = some (.lst acc) ∧ acc.length < sizeLine ∧ Pv (i + 1) (upd H4 D (.lst (acc ++ [y]))) else Pv (i + 1) H3) (hd : ∀ H, Pv (cds x).length H → Qd H) :
    ∃ W : Nat → Nat → Hp → Prop, (∃ m, W 0 m (upd H1 D (.lst []))) ∧ ∀ i m H, W i m H →
      ((Its x).stop i H ∧ Qd H) ∨ ((Its x).go i H ∧ ∃ Nx : Hp → Prop, (∀ H', Nx H' → ∃ m', m' < m ∧ W (i + 1) m' H') ∧ ∀ v H', (Its x).yld i H v H' → g v (wipe σ vs) H' fun σ2 H2 => wipe σ2 vs = wipe σ vs ∧ tt σ2 H2 fun b H3 =>
        if b = true then te σ2 H3 fun y H4 => ∃ acc, H4 D = some (.lst acc) ∧ acc.length < sizeLine ∧ Nx (upd H4 D (.lst (acc ++ [y]))) else Nx H3) := by
  have hz : x.cps.size = (cds x).length := (Array.length_toList).symm
  refine ⟨fun i m H => m = (cds x).length - i ∧ i ≤ (cds x).length ∧ Pv i H, ⟨(cds x).length, by simp, Nat.zero_le _, h0⟩, ?_⟩
  rintro i m H ⟨rfl, hi, p⟩
  by_cases hlt : i < (cds x).length
  · refine .inr ⟨by show i < x.cps.size; omega, Pv (i + 1), fun H' p' => ⟨(cds x).length - (i + 1), by omega, rfl, hlt, p'⟩, ?_⟩
    rintro v H' ⟨e, c, hc, e2⟩
    subst e
    subst e2
    exact hs i c _ (by rw [Array.getElem?_toList]; exact hc) p
  · have e : i = (cds x).length := by omega
    subst e
    exact .inl ⟨by show x.cps.size ≤ _; omega, hd H p⟩

/-- what a filter keeps of the first items -/
def keep (p : Nat → Bool) (l : List Nat) (i : Nat) : List Nat := (l.take i).filter p
theorem keep_succ {p : Nat → Bool} {l : List Nat} {i c : Nat} (h : l[i]? = some c) : keep p l (i + 1) = keep p l i ++ (if p c = true then [c] else []) := by
  unfold keep
  have hi : l.take (i + 1) = l.take i ++ [c] := by
    rw [List.take_succ, h]
    rfl
  rw [hi, List.filter_append]
  by_cases hb : p c = true
  · rw [if_pos hb, List.filter_cons_of_pos hb]
    rfl
  · rw [if_neg hb, List.filter_cons_of_neg hb]
    rfl
theorem keep_all (p : Nat → Bool) (l : List Nat) : keep p l l.length = l.filter p := by
  unfold keep
  rw [List.take_length]
theorem keep_len (p : Nat → Bool) (l : List Nat) (i : Nat) : (keep p l i).length ≤ l.length :=
  Nat.le_trans (List.length_filter_le p _) (by rw [List.length_take]; omega)
/-- the list at D behind i items -/
def Part (p : Nat → Bool) (l : List Nat) (H : Hp) (D : Addr) (i : Nat) (H1 : Hp) : Prop := Same H H1 ∧ H1 D = some (.lst (ones (keep p l i)))
theorem Part.start {p : Nat → Bool} {l : List Nat} {H : Hp} {D : Addr} (hD : H D = none) : Part p l H D 0 (upd H D (.lst [])) := ⟨same_upd hD, upd_same⟩
theorem Part.yes {p : Nat → Bool} {l : List Nat} {H : Hp} {D : Addr} {i c : Nat} {H1 : Hp} (hD : H D = none) (h : Part p l H D i H1) (hc : l[i]? = some c) (hp : p c = true) :
    Part p l H D (i + 1) (upd H1 D (.lst (ones (keep p l i) ++ [.str (one c)]))) := by
  refine ⟨fun b o e => ?_, ?_⟩
  · rw [upd_ne (ne_of_none e hD)]
    exact h.1 _ _ e
  · rw [upd_same, keep_succ hc, if_pos hp]
    show _ = some (HO.lst (ones (keep p l i ++ [c])))
    rw [show ones (keep p l i ++ [c]) = ones (keep p l i) ++ [.str (one c)] from List.map_append]
theorem Part.no {p : Nat → Bool} {l : List Nat} {H : Hp} {D : Addr} {i c : Nat} {H1 : Hp} (h : Part p l H D i H1) (hc : l[i]? = some c) (hp : p c = false) : Part p l H D (i + 1) H1 := by
  refine ⟨h.1, ?_⟩
  rw [keep_succ hc, hp, if_neg Bool.false_ne_true, List.append_nil]
  exact h.2
def bad (c : Nat) : Bool := !(decide (97 ≤ c) && decide (c ≤ 122))
theorem le_a (c : Nat) : (!decide ((one c).cps.toList < (Str.ofString "a").cps.toList)) = decide (97 ≤ c) := by
  have e : (Str.ofString "a").cps.toList = [97] := by decide +kernel
  rw [e, ← decide_not]
  refine decide_eq_decide.mpr ?_
  show ¬ ([c] < [97]) ↔ 97 ≤ c
  rw [List.cons_lt_cons_iff]
  simp
theorem le_z (c : Nat) : (!decide ((Str.ofString "z").cps.toList < (one c).cps.toList)) = decide (c ≤ 122) := by
  have e : (Str.ofString "z").cps.toList = [122] := by decide +kernel
  rw [e, ← decide_not]
  refine decide_eq_decide.mpr ?_
  show ¬ ([122] < [c]) ↔ c ≤ 122
  rw [List.cons_lt_cons_iff]
  simp
theorem no_bad (z : Str) : decide ((cds z).filter bad = []) = lows z := by
  unfold lows
  rw [Bool.eq_iff_iff, decide_eq_true_eq, List.filter_eq_nil_iff, List.all_eq_true]
  exact ⟨fun h c hc => by have := h c hc; simpa [bad] using this, fun h c hc => by have := h c hc; simpa [bad] using this⟩
theorem line_of {z : Str} (hz : Fine z) {n : Nat} (h : n ≤ z.length) : n < sizeLine := Nat.lt_of_le_of_lt (Nat.le_trans h hz.long) (by decide)

section
variable {P : Program} {w : World} {K : PySem.W.Frag} {mg : Str → Option Value} {base : Heap}
def spSmall : Sp := fun vs H Q _ => ∃ (v : V) (d : PyData) (m : Nat), vs = [v, .int m] ∧ Val H v d ∧ Ok d ∧ ∀ H', Same H H' → Q (.bl (small m d)) H'
theorem scSmall : FnScope ["_law_value", "_law_most", "_law_sign"] ["_law_value", "_law_most"] (defScope sSmall) := ⟨rfl, rfl, rfl, by decide +kernel, rfl, by decide +kernel, by decide +kernel⟩
theorem ok_small {f : Addr} {fd : FuncData} (F : Fun K "_law_small" "_law_small" sSmall f fd) (T : Txt K mg) : FnOk P w K mg base CX0 1 f fd ["_law_value", "_law_most"] spSmall := by
  refine F.ok scSmall (fun vs H Q E h => ?_) (fun cdv A outer s H vs Q E hr h => ?_)
  · obtain ⟨v, d, m, rfl, _⟩ := h
    rfl
  · obtain ⟨v, d, m, rfl, hv, hd, q⟩ := h
    refine ⟨_, pss_cons (ps_if (PW.pt (pw_or (pt_not (pt_val (pe_callB call_isi (by rfl) T.isi (by decide +kernel) (pa_cons (pv 0) (pa_cons (pe_bltn (v := .ty "str") (by rfl) T.str (by decide +kernel) rfl) pa_nil)))))
        (pw_or1 (pt_not (pt_chain op_le op_le pe_int (pe_callB call_len_str (by rfl) T.len PySem.boot_len (pa_cons (pv 0) pa_nil)) (pv 1)))))) (pss_one (ps_ret pe_bl)) pss_nil)
      (pss_one (ps_ret (pe_cmpR (op_eqD hr.units) (pe_lc (own := [("_law_sign", 2)]) (g := gName 2) rfl scSmall.nd (pi_str (pv 0)) (blkOk_by (own := [("_law_sign", 2)]) (N := ["_law_value", "_law_most", "_law_sign"]) (sc := defScope sSmall) (by decide +kernel))
        (fun _ _ _ _ _ => pg_name (i := 2) scSmall.nd rfl (Or.inl rfl)) (fun _ _ _ _ _ => pts_one (pt_not (pt_chain op_le_str op_le_str pe_str (pv 2) pe_str))) (fun _ _ _ _ _ => pv 2)) (pe_lst pa_nil) (nomark _)))), ?_⟩
    obtain ⟨t, ty, _, k2, _⟩ := Val.ty (K := K) hv
    refine ⟨_, rfl, _, _, _, _, _, rfl, .ty "str", ty, k2, strTy d, rfl, ?_⟩
    cases hv with
    | str z =>
      have hz : Fine z := hd
      have e0 : small m (.str z) = (decide (1 ≤ z.length) && decide (z.length ≤ m) && lows z) := rfl
      refine iteF ?_
      refine ⟨_, rfl, z, rfl, fine_line hz, _, _, rfl, rfl, _, rfl, ?_⟩
      refine ite2 (fun h1 => ?_) (fun h1 => ?_)
      · have h1' : 1 ≤ z.length := by have := of_decide_eq_true h1; omega
        refine ⟨_, rfl, _, _, rfl, rfl, _, rfl, ?_⟩
        refine ite2 (fun h2 => ?_) (fun h2 => ?_)
        · have h2' : ¬ z.length ≤ m := by
            have e : decide ((z.length : Int) ≤ (m : Int)) = false := by simpa using h2
            have := of_decide_eq_false e
            omega
          have q' := q H (Same.refl H)
          rw [e0, decide_eq_false h2', Bool.and_false, Bool.false_and] at q'
          exact q'
        · have h2' : z.length ≤ m := by
            have e : decide ((z.length : Int) ≤ (m : Int)) = true := by simpa using h2
            have := of_decide_eq_true e
            omega
          refine ⟨_, rfl, z, rfl, fun D hD => ?_⟩
          refine lc_text (Part bad (cds z) H D) (Part.start hD) ?_ ?_
          · rintro i c H1 hc h1
            refine ⟨rfl, _, rfl, _, _, rfl, rfl, _, rfl, ?_⟩
            refine ite2 (fun g1 => ?_) (fun g1 => ?_)
            · rw [le_a] at g1
              refine ⟨_, _, rfl, rfl, _, rfl, ?_⟩
              refine ite2 (fun g2 => ?_) (fun g2 => ?_)
              · have hp : bad c = true := by
                  rw [le_z] at g2
                  unfold bad
                  rw [g1, Bool.true_and]
                  exact g2
                refine ⟨_, rfl, _, h1.2, ?_, h1.yes hD hc hp⟩
                rw [List.length_map]
                exact line_of hz (Nat.le_trans (keep_len _ _ _) (by rw [cds_len]; exact Nat.le_refl _))
              · refine h1.no hc ?_
                rw [le_z] at g2
                unfold bad
                rw [g1, Bool.true_and]
                simpa using g2
            · rw [le_a] at g1
              have g1' : decide (97 ≤ c) = false := by simpa using g1
              have hp : bad c = true := by
                unfold bad
                rw [g1', Bool.false_and]
                rfl
              refine ⟨_, rfl, iteT ⟨_, rfl, _, h1.2, ?_, h1.yes hD hc hp⟩⟩
              rw [List.length_map]
              exact line_of hz (Nat.le_trans (keep_len _ _ _) (by rw [cds_len]; exact Nat.le_refl _))
          · rintro H1 ⟨s1, e1⟩
            rw [keep_all] at e1
            refine ⟨by decide, fun p np => ?_⟩
            have e2 := same_upd (o := .lst []) np _ _ e1
            have all : ∀ c ∈ (cds z).filter bad, c < 128 := fun c hc => hz.plain c (List.mem_filter.mp hc).1
            refine ⟨.list (onesD _), .list (onesD []), .lst (SqL.of e2) (all_ones _ _ _), .lst (SqL.of upd_same) .nil, shaped_ones _ all, by rfl, ?_⟩
            have e3 : PyData.eqv (.list (onesD ((cds z).filter bad))) (.list (onesD [])) = lows z := Eq.trans (eqv_ones _ _) (no_bad z)
            rw [e3]
            have q' := q _ (s1.trans (same_upd (o := .lst []) np))
            rw [e0, decide_eq_true h1', decide_eq_true h2', Bool.true_and, Bool.true_and] at q'
            exact q'
      · have h1' : ¬ 1 ≤ z.length := fun e => h1 (decide_eq_true (by omega))
        have q' := q H (Same.refl H)
        rw [e0, decide_eq_false h1', Bool.false_and, Bool.false_and] at q'
        exact ⟨_, rfl, iteT q'⟩
    | _ => exact iteT (iteT (q H (Same.refl H)))
end
end K0
set_option Elab.async false
set_option linter.all false
set_option maxRecDepth 100000
set_option maxHeartbeats 3200000
namespace K0
open PySem L2 Tx Tg Tm
section
variable {P : Program} {w : World} {K : PySem.W.Frag} {mg : Str → Option Value} {base : Heap}
theorem scAre : FnScope ["_law_value"] ["_law_value"] (defScope sAre) := ⟨rfl, rfl, rfl, by decide +kernel, rfl, by decide +kernel, by decide +kernel⟩
theorem ok_are {f fS : Addr} {fd fdS : FuncData} (F : Fun K "_law_are_signs" "_law_are_signs" sAre f fd) (T : Txt K mg) (DS : Df K mg "_law_small" sSmall ["_law_value", "_law_most"] fS fdS) :
    FnOk P w K mg base CX0 2 f fd ["_law_value"] spLetters := by
  have G := ok_small (P := P) (w := w) (base := base) DS.F T
  refine F.ok scAre (fun vs H Q E h => ?_) (fun cdv A outer s H vs Q E hr h => ?_)
  · obtain ⟨v, d, rfl, _⟩ := h
    rfl
  · obtain ⟨v, d, rfl, hv, hd, q⟩ := h
    refine ⟨_, pss_one (ps_ret (pe_and (pe_call G hr (by rfl) DS.m DS.F.kp DS.b .nil pass0 (pa_cons (pv 0) (pa_cons pe_int pa_nil)))
      (pe_one (pe_cmpR (op_eqD hr.units) (pe_callTy (cr_listTx rfl) (by rfl) T.list (by decide +kernel) (pa_cons (pv 0) pa_nil))
        (pe_callB (cr_sortTx rfl) (by rfl) T.sorted (by decide +kernel) (pa_cons (pe_callTy (cr_setTx rfl) (by rfl) T.set (by decide +kernel) (pa_cons (pv 0) pa_nil)) pa_nil)) (nomark _))))), ?_⟩
    refine ⟨_, rfl, v, d, 3, rfl, hv, hd, fun H0 s0 => ?_⟩
    have el := letters_small d
    cases hb : small 3 d with
    | true =>
      rw [hb, Bool.true_and] at el
      refine ⟨_, rfl, iteT ?_⟩
      cases hv with
      | str z =>
        have hz : Fine z := hd
        refine ⟨_, rfl, z, rfl, fine_line hz, fun p1 n1 => ?_⟩
        refine ⟨_, rfl, z, rfl, hz.few, fun p2 n2 => ?_⟩
        refine ⟨p2, cds z, rfl, upd_same, hz.few, fun p3 n3 => ?_⟩
        have s1 : Same H0 (upd H0 p1 (.lst (ones (cds z)))) := same_upd n1
        have s2 := same_upd (o := TO w p2 (met [] (cds z))) n2
        have s3 := same_upd (o := .lst (ones (ups (cds z)))) n3
        have h1 := s3 _ _ (s2 _ _ (upd_same (H := H0) (a := p1) (o := .lst (ones (cds z)))))
        refine ⟨.list (onesD (cds z)), .list (onesD (ups (cds z))), .lst (SqL.of h1) (all_ones _ _ _), .lst (SqL.of upd_same) (all_ones _ _ _), shaped_ones _ hz.plain, shaped_ones _ (fun c hc => hz.plain c ((ups_mem _ _).mp hc)), ?_⟩
        have e2 : PyData.eqv (.list (onesD (cds z))) (.list (onesD (ups (cds z)))) = rise z := eqv_ones _ _
        rw [e2]
        have q' := q _ (((s0.trans s1).trans s2).trans s3)
        rw [el] at q'
        exact q'
      | _ => cases hb
    | false =>
      rw [hb, Bool.false_and] at el
      refine ⟨_, rfl, iteF ?_⟩
      have q' := q _ s0
      rw [el] at q'
      exact q'

def spMade : Sp := fun vs H Q _ => ∃ (v : V) (d : PyData) (sg : Str) (m : Nat), vs = [.str sg, v, .int m] ∧ Val H v d ∧ Ok d ∧ ∀ H', Same H H' → Q (.bl (has sg m d)) H'
def out (sg : Str) (c : Nat) : Bool := !decide (c ∈ cds sg)
theorem no_out (z sg : Str) : decide ((ups (cds z)).filter (out sg) = []) = only z sg := by
  rw [Bool.eq_iff_iff, decide_eq_true_eq, List.filter_eq_nil_iff, only_iff]
  constructor
  · intro h c hc
    have := h c ((ups_mem _ _).mpr hc)
    simpa [out] using this
  · intro h c hc
    have := h c ((ups_mem _ _).mp hc)
    simpa [out] using this
theorem scMade : FnScope ["_law_signs_here", "_law_value", "_law_most", "_law_sign"] ["_law_signs_here", "_law_value", "_law_most"] (defScope sMade) := ⟨rfl, rfl, rfl, by decide +kernel, rfl, by decide +kernel, by decide +kernel⟩
theorem ok_made {f : Addr} {fd : FuncData} (F : Fun K "_law_is_made" "_law_is_made" sMade f fd) (T : Txt K mg) : FnOk P w K mg base CX0 1 f fd ["_law_signs_here", "_law_value", "_law_most"] spMade := by
  refine F.ok scMade (fun vs H Q E h => ?_) (fun cdv A outer s H vs Q E hr h => ?_)
  · obtain ⟨v, d, sg, m, rfl, _⟩ := h
    rfl
  · obtain ⟨v, d, sg, m, rfl, hv, hd, q⟩ := h
    refine ⟨_, pss_one (ps_ret (pe_and (pe_callB call_isi (by rfl) T.isi (by decide +kernel) (pa_cons (pv 1) (pa_cons (pe_bltn (v := .ty "str") (by rfl) T.str (by decide +kernel) rfl) pa_nil)))
      (pe_and (pe_cmpR op_le (pe_callB call_len_str (by rfl) T.len PySem.boot_len (pa_cons (pv 1) pa_nil)) (pv 2) (nomark _))
      (pe_one (pe_cmpR (op_eqD hr.units) (pe_lc (own := [("_law_sign", 3)]) (g := gName 3) rfl scMade.nd
          (pi_list (pe_callB (cr_sortTx rfl) (by rfl) T.sorted (by decide +kernel) (pa_cons (pe_callTy (cr_setTx rfl) (by rfl) T.set (by decide +kernel) (pa_cons (pv 1) pa_nil)) pa_nil)))
          (blkOk_by (own := [("_law_sign", 3)]) (N := ["_law_signs_here", "_law_value", "_law_most", "_law_sign"]) (sc := defScope sMade) (by decide +kernel))
          (fun _ _ _ _ _ => pg_name (i := 3) scMade.nd rfl (Or.inl rfl)) (fun _ _ _ _ _ => pts_one (pt_cmpR op_notIn_sign (pv 3) (pv 0) (by rfl))) (fun _ _ _ _ _ => pv 3)) (pe_lst pa_nil) (nomark _)))))), ?_⟩
    obtain ⟨t, ty, _, k, _⟩ := Val.ty (K := K) hv
    refine ⟨_, rfl, _, _, _, _, _, rfl, .ty "str", ty, k, strTy d, rfl, ?_⟩
    cases hv with
    | str z =>
      have hz : Fine z := hd
      refine iteT ?_
      have e0 : has sg m (.str z) = (decide (z.length ≤ m) && only z sg) := rfl
      refine ⟨_, rfl, z, rfl, fine_line hz, _, rfl, _, _, rfl, rfl, _, rfl, ?_⟩
      refine ite2 (fun h1 => ?_) (fun h1 => ?_)
      · have h1' : z.length ≤ m := by have := of_decide_eq_true h1; omega
        refine ⟨_, rfl, z, rfl, hz.few, fun p1 n1 => ?_⟩
        refine ⟨p1, cds z, rfl, upd_same, hz.few, fun p2 n2 => ?_⟩
        have s1 : Same H (upd H p1 (TO w p1 (met [] (cds z)))) := same_upd n1
        have s2 := same_upd (o := .lst (ones (ups (cds z)))) n2
        refine ⟨p2, rfl, ⟨_, SqL.of upd_same⟩, fun D hD => ?_⟩
        have ul : (ups (cds z)).length < 64 := by
          rw [(ups_perm _).length_eq]
          exact hz.few
        refine lc_list (K := K) (a := p2) (xs := ones (ups (cds z))) (Part (out sg) (ups (cds z)) _ D) (Part.start hD) (fun i H1 _ h1 => SqL.of (h1.1 _ _ upd_same)) ?_ ?_
        · intro i x H1 hx h1
          obtain ⟨c, hc, rfl⟩ : ∃ c, (ups (cds z))[i]? = some c ∧ x = .str (one c) := by
            rw [List.getElem?_map] at hx
            cases e : (ups (cds z))[i]? with
            | none => rw [e] at hx; cases hx
            | some c => rw [e] at hx; exact ⟨c, rfl, (Option.some.inj hx).symm⟩
          refine ⟨rfl, _, rfl, _, rfl, c, sg, rfl, rfl, _, rfl, ?_⟩
          refine ite2 (fun g1 => ?_) (fun g1 => ?_)
          · refine ⟨_, rfl, _, h1.2, ?_, h1.yes hD hc g1⟩
            rw [List.length_map]
            exact Nat.lt_of_le_of_lt (keep_len _ _ _) (Nat.lt_trans ul (by decide))
          · exact h1.no hc (by simpa [out] using g1)
        · intro H1 hP
          rw [show (ones (ups (cds z))).length = (ups (cds z)).length from List.length_map _] at hP
          obtain ⟨s3, e1⟩ := hP
          rw [keep_all] at e1
          refine ⟨by decide, fun p np => ?_⟩
          have e2 := same_upd (o := .lst []) np _ _ e1
          have all : ∀ c ∈ (ups (cds z)).filter (out sg), c < 128 := fun c hc => hz.plain c ((ups_mem _ _).mp (List.mem_filter.mp hc).1)
          refine ⟨.list (onesD _), .list (onesD []), .lst (SqL.of e2) (all_ones _ _ _), .lst (SqL.of upd_same) .nil, shaped_ones _ all, by rfl, ?_⟩
          have e3 : PyData.eqv (.list (onesD ((ups (cds z)).filter (out sg)))) (.list (onesD [])) = only z sg := Eq.trans (eqv_ones _ _) (no_out z sg)
          rw [e3]
          have q' := q _ (((s1.trans s2).trans s3).trans (same_upd (o := .lst []) np))
          rw [e0, decide_eq_true h1', Bool.true_and] at q'
          exact q'
      · have h1' : ¬ z.length ≤ m := fun e => h1 (decide_eq_true (by omega))
        have q' := q H (Same.refl H)
        rw [e0, decide_eq_false h1', Bool.false_and] at q'
        exact q'
    | _ => exact iteF (q H (Same.refl H))

/-! ### drawing -/
theorem scPick : FnScope ["_law_cup_here", "_law_items"] ["_law_cup_here", "_law_items"] (defScope sPick) := ⟨rfl, rfl, rfl, by decide +kernel, rfl, by decide +kernel, by decide +kernel⟩
def spPick : Sp := fun vs H Q _ => ∃ (c : Addr), Cup H c ∧
  ((∃ (p : Addr) (xs : List V), vs = [.ref c, .ref p] ∧ p ≠ c ∧ H p = some (.lst xs) ∧ 0 < xs.length ∧ xs.length < 100 ∧ ∀ x H', x ∈ xs → Cup H' c → But c H H' → Q x H') ∨
   (∃ z : Str, vs = [.ref c, .str z] ∧ 0 < z.length ∧ z.length < 100 ∧ ∀ s H', s ∈ cds z → Cup H' c → But c H H' → Q (.str (one s)) H'))
theorem ok_pick {f fB : Addr} {fd fdB : FuncData} (F : Fun K "_law_pick" "_law_pick" sPick f fd) (T : Txt K mg) (DB : Df K mg "_law_bit" sBit ["_law_cup_here", "_law_much"] fB fdB) :
    FnOk P w K mg base CX0 2 f fd ["_law_cup_here", "_law_items"] spPick := by
  have G := ok_bit (P := P) (w := w) (base := base) DB.F T
  refine F.ok scPick (fun vs H Q E h => ?_) (fun cdv A outer s H vs Q E hr h => ?_)
  · obtain ⟨c, _, h⟩ := h
    rcases h with ⟨p, xs, rfl, _⟩ | ⟨z, rfl, _⟩ <;> rfl
  · obtain ⟨c, hc, h⟩ := h
    refine ⟨_, pss_one (ps_ret (pe_ix ix_seq (pv 1) (pe_call G hr (by rfl) DB.m DB.F.kp DB.b .nil pass0 (pa_cons (pv 0) (pa_cons (pe_callB call_len (by rfl) T.len PySem.boot_len (pa_cons (pv 1) pa_nil)) pa_nil))) (fun _ _ => rfl))), ?_⟩
    have small : ∀ n : Nat, n < 100 → (n : Int).natAbs < 2 ^ 9000 := fun n hn => Nat.lt_of_lt_of_le (show (n : Int).natAbs < 2 ^ 7 by omega) (Nat.pow_le_pow_right (by decide) (by decide))
    rcases h with ⟨p, xs, rfl, hpc, hp, h0, h1, q⟩ | ⟨z, rfl, h0, h1, q⟩
    · refine ⟨_, rfl, _, rfl, _, rfl, _, xs.length, rfl, .inl ⟨_, SqL.of hp, rfl⟩, c, xs.length, rfl, hc, by omega, small _ h1, fun r H' r0 r1 hc' but => ?_⟩
      obtain ⟨n, rfl⟩ := Int.eq_ofNat_of_zero_le r0
      have hn : n < xs.length := by omega
      exact .inl ⟨p, xs, _, xs[n], rfl, rfl, SqL.of (but _ _ hpc hp), atI_nat (List.getElem?_eq_getElem hn), q _ _ (List.getElem_mem hn) hc' but⟩
    · have hl : z.length ≤ sizeLine := Nat.le_trans (Nat.le_of_lt h1) (by decide)
      refine ⟨_, rfl, _, rfl, _, rfl, _, z.length, rfl, ⟨hl, rfl⟩, c, z.length, rfl, hc, by omega, small _ h1, fun r H' r0 r1 hc' but => ?_⟩
      obtain ⟨n, rfl⟩ := Int.eq_ofNat_of_zero_le r0
      have hn : n < (cds z).length := by rw [cds_len]; omega
      exact .inr (.inr ⟨z, _, (cds z)[n], rfl, rfl, hl, atI_nat (List.getElem?_eq_getElem hn), q _ _ (List.getElem_mem hn) hc' but⟩)

def Signs (z : Str) : Prop := z = "ab" ∨ z = "xy" ∨ z = "a" ∨ z = "abc"
def spSigns : Sp := fun vs H Q _ => ∃ (c : Addr), vs = [.ref c] ∧ Cup H c ∧ ∀ z H', Signs z → Cup H' c → But c H H' → Q (.str z) H'
theorem scSigns : FnScope ["_law_cup_here"] ["_law_cup_here"] (defScope sSigns) := ⟨rfl, rfl, rfl, by decide +kernel, rfl, by decide +kernel, by decide +kernel⟩
theorem Cup.same {H H' : Hp} {c : Addr} (s : Same H H') (h : Cup H c) : Cup H' c := let ⟨a, b, d, e⟩ := h; ⟨a, b, d, s _ _ e⟩
theorem Cup.ne {H : Hp} {c p : Addr} (h : Cup H c) (n : H p = none) : p ≠ c := by
  obtain ⟨a, b, d, e⟩ := h
  exact (ne_of_none e n).symm
theorem ok_signs {f fB fP : Addr} {fd fdB fdP : FuncData} (F : Fun K "_law_signs" "_law_signs" sSigns f fd) (T : Txt K mg) (DB : Df K mg "_law_bit" sBit ["_law_cup_here", "_law_much"] fB fdB)
    (DP : Df K mg "_law_pick" sPick ["_law_cup_here", "_law_items"] fP fdP) : FnOk P w K mg base CX0 3 f fd ["_law_cup_here"] spSigns := by
  have G := ok_pick (P := P) (w := w) (base := base) DP.F T DB
  refine F.ok scSigns (fun vs H Q E h => ?_) (fun cdv A outer s H vs Q E hr h => ?_)
  · obtain ⟨c, rfl, _⟩ := h
    rfl
  · obtain ⟨c, rfl, hc, q⟩ := h
    refine ⟨_, pss_one (ps_ret (pe_call G hr (by rfl) DP.m DP.F.kp DP.b .nil pass0 (pa_cons (pv 0) (pa_cons (pe_lst (pa_cons pe_str (pa_cons pe_str (pa_cons pe_str (pa_cons pe_str (pa_cons pe_str (pa_cons pe_str pa_nil))))))) pa_nil)))), ?_⟩
    refine ⟨_, rfl, by show 6 ≤ sizeLine; decide, fun p np => ⟨c, hc.same (same_upd np), .inl ⟨p, _, rfl, hc.ne np, upd_same, by decide, by decide, fun x H' hx hc' but => ?_⟩⟩⟩
    have b2 : But c H H' := (But.of (same_upd np)).trans but
    simp only [List.mem_cons, List.not_mem_nil, or_false] at hx
    rcases hx with rfl | rfl | rfl | rfl | rfl | rfl
    · exact q _ _ (.inl rfl) hc' b2
    · exact q _ _ (.inl rfl) hc' b2
    · exact q _ _ (.inl rfl) hc' b2
    · exact q _ _ (.inr (.inl rfl)) hc' b2
    · exact q _ _ (.inr (.inr (.inl rfl))) hc' b2
    · exact q _ _ (.inr (.inr (.inr rfl))) hc' b2
end
end K0
set_option Elab.async false
set_option linter.all false
set_option maxRecDepth 100000
set_option maxHeartbeats 3200000
namespace K0
open PySem L2 Tx Tg Tm
/-! ### what is shown -/
theorem map_inj {α β : Type} {f : α → β} (hf : ∀ a b, f a = f b → a = b) : ∀ {l m : List α}, l.map f = m.map f → l = m
  | [], [], _ => rfl
  | [], _ :: _, h => by simp at h
  | _ :: _, [], h => by simp at h
  | a :: l, b :: m, h => by
    rw [List.map_cons, List.map_cons] at h
    have h1 := (List.cons.inj h).1
    have h2 := (List.cons.inj h).2
    rw [hf a b h1, map_inj hf h2]
theorem char_inj (a b : Char) (h : a.toNat = b.toNat) : a = b := by
  have e := congrArg Char.ofNat h
  rwa [Char.ofNat_toNat, Char.ofNat_toNat] at e
theorem text_inj {a b : String} (h : Str.ofString a = Str.ofString b) : a = b := by
  rw [Str.ofString_eq_toList, Str.ofString_eq_toList] at h
  have e : a.toList.map Char.toNat = b.toList.map Char.toNat := congrArg (fun y : Str => y.cps.toList) h
  exact String.toList_inj.mp (map_inj char_inj e)
theorem num_eq (n k : Int) (s : String) (hs : toString k = s) : (Str.ofString s == Str.ofString (toString n)) = decide (n = k) := by
  by_cases h : n = k
  · subst h
    rw [hs, decide_eq_true rfl]
    exact beq_self_eq_true _
  · rw [decide_eq_false h]
    refine beq_eq_false_iff_ne.mpr fun q => h ?_
    have e := text_inj q
    rw [← hs] at e
    exact (shown_int e).symm
theorem one_len {z : Str} {s : String} (h : 2 ≤ z.length) (hs : (Str.ofString s).length = 1) : (Str.ofString s == z) = false :=
  beq_eq_false_iff_ne.mpr fun q => by
    rw [← q, hs] at h
    omega
theorem in_four (x : Str) : inV (.str x) four = (Str.ofString "2" == x || (Str.ofString "3" == x || (Str.ofString "5" == x || (Str.ofString "7" == x || false)))) := rfl
theorem Val.data {K : PySem.W.Frag} {H : Hp} {v : V} {d : PyData} (h : Val H v d) : Data K H v d := by
  have texts : ∀ l : List Str, DpAll K H (l.map V.str) (l.map PyData.str) := fun l => by
    induction l with
    | nil => exact .nil
    | cons x l ih => exact .cons (.str x) ih
  have nums : ∀ l : List Int, DpAll K H (l.map V.int) (l.map PyData.int) := fun l => by
    induction l with
    | nil => exact .nil
    | cons x l ih => exact .cons (.int x) ih
  have noS : ∀ l : List Str, PyData.hasDictAll (l.map PyData.str) = false := fun l => by
    induction l with
    | nil => rfl
    | cons x l ih => exact ih
  have noI : ∀ l : List Int, PyData.hasDictAll (l.map PyData.int) = false := fun l => by
    induction l with
    | nil => rfl
    | cons x l ih => exact ih
  cases h with
  | non => exact .flat .non rfl
  | bl b => exact .flat (.bl b) rfl
  | int n => exact .flat (.int n) rfl
  | str z => exact .flat (.str z) rfl
  | lst l h => exact .flat (.lst (SqL.of h) (texts l)) (noS l)
  | tup l h => exact .flat (.tup (SqT.of h) (texts l)) (noS l)
  | tupI l h => exact .flat (.tup (SqT.of h) (nums l)) (noI l)
  | dct l h => exact .dict h
theorem shows {d : PyData} (h : Ok d) : d.showable = true ∧ d.depth < 60 ∧ d.shown.length ≤ sizeLine ∧ inV (.str d.shown) four = prime d := by
  cases d with
  | int n =>
    have hn : n.natAbs.log2 < 1920 := h
    refine ⟨decide_eq_true hn, by show 0 < 60; decide, PySem.int_text_fits hn, ?_⟩
    show inV (.str (Str.ofString (toString n))) four = decide (n = 2 ∨ n = 3 ∨ n = 5 ∨ n = 7)
    rw [in_four, num_eq n 2 "2" rfl, num_eq n 3 "3" rfl, num_eq n 5 "5" rfl, num_eq n 7 "7" rfl, Bool.eq_iff_iff]
    simp only [Bool.or_eq_true, decide_eq_true_eq, Bool.false_eq_true, or_false]
  | str z =>
    have hz : Fine z := h
    have g2 : 2 ≤ (reprText z).length := StrLaws.reprText_ge2 z
    have l1 : (reprText z).length ≤ 10 * z.length + 2 := StrLaws.reprText_len z fun c hc => Nat.lt_trans (hz.plain c hc) (by decide)
    have l2 := hz.long
    refine ⟨rfl, by show 0 < 60; decide, ?_, ?_⟩
    · show (reprText z).length ≤ sizeLine
      exact Nat.le_trans (show (reprText z).length ≤ 40012 by omega) (by decide)
    · show inV (.str (reprText z)) four = false
      rw [in_four, one_len g2 (by decide +kernel), one_len g2 (by decide +kernel), one_len g2 (by decide +kernel), one_len g2 (by decide +kernel)]
      rfl
  | none => exact h
  | bool b => exact h
  | list l => exact h
  | tuple l => exact h
  | dict l => exact h

section
variable {P : Program} {w : World} {K : PySem.W.Frag} {mg : Str → Option Value} {base : Heap}
def dueRow (sg : Str) (d : PyData) : List V := [.bl (isInt d), .bl (small 8 d), .bl (letters d), .bl (has sg 4000 d), .bl (has (both sg) 4000 d), .bl (has sg 400 d), .bl (prime d)]
def spDue : Sp := fun vs H Q _ => ∃ (sg : Str) (v : V) (d : PyData), vs = [.str sg, v] ∧ sg.length ≤ 3 ∧ Val H v d ∧ Ok d ∧ ∀ p H', Same H H' → H' p = some (.lst (dueRow sg d)) → Q (.ref p) H'
theorem scDue : FnScope ["_law_signs_here", "_law_value", "_law_due_here"] ["_law_signs_here", "_law_value"] (defScope sDue) := ⟨rfl, rfl, rfl, by decide +kernel, rfl, by decide +kernel, by decide +kernel⟩
theorem isInt_abs2 (n : Int) : decide ((if n < 0 then -n else n) < ((10 : Int) ^ Int.toNat 50) ^ Int.toNat 4) = isInt (.int n) := by
  have e : ((10 : Int) ^ Int.toNat 50) ^ Int.toNat 4 = 10 ^ 200 := by decide +kernel
  rw [e]
  exact isInt_abs n
theorem read_int {K0 : PySem.W.Frag} {H : Hp} {v : V} {d : PyData} {σ : L2.St} (hv : Val H v d) (hs : σ[1]? = some (some v)) {R : V → Hp → Prop} (h : R (.bl (isInt d)) H) :
    tAndV (tCB (rIsi K0) (tCons (tVar 1) (tCons (tC (V.ty "int")) tNil))) (tAndV (tNotV (tCB (rIsi K0) (tCons (tVar 1) (tCons (tC (V.ty "bool")) tNil))))
      (tOp (rI0 fun i j => V.bl (decide (i < j))) (tCB (fun xs H Q => ∃ i, xs = [V.int i] ∧ Q (V.int (if i < 0 then -i else i)) H) (tCons (tVar 1) tNil))
        (tOp (rI (fun i j => 0 ≤ j ∧ (Builtin.Int.intBits i : Int) * j ≤ 2 ^ 27) fun i j => V.int (i ^ j.toNat)) (tOp (rI CPow fun i j => V.int (i ^ j.toNat)) (tC (V.int 10)) (tC (V.int 50))) (tC (V.int 4))))) σ H R := by
  obtain ⟨t, ty, k1, _, k3⟩ := Val.ty (K := K0) hv
  refine ⟨_, hs, _, _, _, _, _, rfl, .ty "int", ty, k1, intTy d, rfl, ?_⟩
  cases hv with
  | int n =>
    refine iteT ⟨_, hs, _, _, _, _, _, rfl, .ty "bool", ty, k3, _, rfl, _, rfl, iteT ?_⟩
    refine ⟨_, hs, n, rfl, _, _, rfl, rfl, ⟨by decide, by decide, by decide⟩, _, _, rfl, rfl, ⟨by decide, by decide +kernel⟩, _, _, rfl, rfl, ?_⟩
    show R (.bl (decide ((if n < 0 then -n else n) < ((10 : Int) ^ Int.toNat 50) ^ Int.toNat 4))) H
    rw [isInt_abs2]
    exact h
  | bl b => exact iteT ⟨_, hs, _, _, _, _, _, rfl, .ty "bool", ty, k3, _, rfl, _, rfl, iteF h⟩
  | _ => exact iteF h
theorem ok_due {f fS fA fM : Addr} {fd fdS fdA fdM : FuncData} (F : Fun K "_law_due" "_law_due" sDue f fd) (T : Txt K mg) (DS : Df K mg "_law_small" sSmall ["_law_value", "_law_most"] fS fdS)
    (DA : Df K mg "_law_are_signs" sAre ["_law_value"] fA fdA) (DM : Df K mg "_law_is_made" sMade ["_law_signs_here", "_law_value", "_law_most"] fM fdM) :
    Kept P w K mg base CX0 3 f fd ["_law_signs_here", "_law_value"] spDue := by
  have GS := ok_small (P := P) (w := w) (base := base) DS.F T
  have GA := ok_are (P := P) (w := w) (base := base) DA.F T DS
  have GM := ok_made (P := P) (w := w) (base := base) DM.F T
  refine Kept.fn F scDue (fun vs H Q E h => ?_) (fun cdv A outer s H vs Q E hr still h => ?_)
  · obtain ⟨sg, v, d, rfl, _⟩ := h
    rfl
  · obtain ⟨sg, v, d, rfl, hsg, hv, hd, q⟩ := h
    have hr1 : Room 1 _ := hr.mono (by decide)
    refine ⟨_, pss_cons (ps_set (i := 2) scDue.nd rfl (Or.inl rfl) (pe_lst (pa_cons
        (pe_and (pe_callB call_isi (by rfl) T.isi (by decide +kernel) (pa_cons (pv 1) (pa_cons (pe_bltn (v := .ty "int") (by rfl) T.int (by decide +kernel) rfl) pa_nil)))
        (pe_and (pe_not (pe_callB call_isi (by rfl) T.isi (by decide +kernel) (pa_cons (pv 1) (pa_cons (pe_bltn (v := .ty "bool") (by rfl) T.bool (by decide +kernel) rfl) pa_nil))))
        (pe_one (pe_cmpR op_lt (pe_callB call_abs (by rfl) T.abs (by decide +kernel) (pa_cons (pv 1) pa_nil)) (pe_op op_powW (pe_op op_pow pe_int pe_int) pe_int) (nomark _)))))
        (pa_cons (pe_call GS hr1 (by rfl) DS.m DS.F.kp DS.b .nil pass0 (pa_cons (pv 1) (pa_cons pe_int pa_nil))) pa_nil))))
      (pss_cons (ps_set (i := 2) scDue.nd rfl (Or.inl rfl) (pe_op op_cat (pv 2) (pe_lst (pa_cons (pe_call GA hr (by rfl) DA.m DA.F.kp DA.b .nil pass0 (pa_cons (pv 1) pa_nil))
        (pa_cons (pe_call GM hr1 (by rfl) DM.m DM.F.kp DM.b .nil pass0 (pa_cons (pv 0) (pa_cons (pv 1) (pa_cons pe_int pa_nil))))
        (pa_cons (pe_call GM hr1 (by rfl) DM.m DM.F.kp DM.b .nil pass0 (pa_cons (pe_op op_add_str (pv 0) (pe_bm0 PySem.F.plainAttrs_str PySem.F.slot_str_upper PySem.F.type_str_upper mt_upper (pv 0))) (pa_cons (pv 1) (pa_cons pe_int pa_nil)))) pa_nil))))))
      (pss_one (ps_ret (pe_op op_cat (pv 2) (pe_lst (pa_cons (pe_call GM hr1 (by rfl) DM.m DM.F.kp DM.b .nil pass0 (pa_cons (pv 0) (pa_cons (pv 1) (pa_cons pe_int pa_nil))))
        (pa_cons (pe_cmpR op_in_seq (pe_callB (call_show still hr.units) (by rfl) T.repr (by decide +kernel) (pa_cons (pv 1) pa_nil)) (pe_tup (pa_cons pe_str (pa_cons pe_str (pa_cons pe_str (pa_cons pe_str pa_nil))))) (by rfl)) pa_nil))))))), ?_⟩
    refine read_int hv rfl ?_
    refine ⟨_, rfl, v, d, 8, rfl, hv, hd, fun H1 s1 => ?_⟩
    refine ⟨by show 2 ≤ sizeLine; decide, fun p1 n1 => ?_⟩
    have s1' := s1.trans (same_upd (o := .lst [.bl (isInt d), .bl (small 8 d)]) n1)
    refine ⟨_, rfl, _, rfl, v, d, rfl, hv.same s1', hd, fun H2 s2 => ?_⟩
    refine ⟨_, rfl, _, rfl, v, d, sg, 4000, rfl, (hv.same s1').same s2, hd, fun H3 s3 => ?_⟩
    have hu := PyProof.Rows.len_upper sg
    have line : sg.length + (Txt.upper sg).length ≤ sizeLine := Nat.le_trans (show sg.length + (Txt.upper sg).length ≤ 12 by omega) (by decide)
    refine ⟨_, rfl, _, rfl, rfl, sg, rfl, rfl, by omega, sg, Txt.upper sg, rfl, rfl, line, _, rfl, v, d, both sg, 4000, rfl, ((hv.same s1').same s2).same s3, hd, fun H4 s4 => ?_⟩
    refine ⟨by show 3 ≤ sizeLine; decide, fun p2 n2 => ?_⟩
    have t4 := ((s2.trans s3).trans s4)
    have s4' := (s1'.trans t4).trans (same_upd (o := .lst [.bl (letters d), .bl (has sg 4000 d), .bl (has (both sg) 4000 d)]) n2)
    have e1 := same_upd (o := .lst [.bl (letters d), .bl (has sg 4000 d), .bl (has (both sg) 4000 d)]) n2 _ _ (t4 _ _ (upd_same (H := H1) (a := p1) (o := .lst [.bl (isInt d), .bl (small 8 d)])))
    refine ⟨p1, p2, _, _, rfl, rfl, e1, upd_same, by show 5 ≤ sizeLine; decide, fun p3 n3 => ?_⟩
    have s5 := s4'.trans (same_upd (o := .lst ([.bl (isInt d), .bl (small 8 d)] ++ [.bl (letters d), .bl (has sg 4000 d), .bl (has (both sg) 4000 d)])) n3)
    refine ⟨_, rfl, _, rfl, _, rfl, v, d, sg, 400, rfl, hv.same s5, hd, fun H5 s6 => ?_⟩
    obtain ⟨g1, g2, g3, g4⟩ := shows hd
    refine ⟨_, rfl, v, d, rfl, ((hv.same s5).same s6).data, g1, g2, g3, by show 4 ≤ sizeLine; decide, fun pt nt => ?_⟩
    have s7 := (s5.trans s6).trans (same_upd (o := .tup four) nt)
    refine ⟨pt, four, rfl, .inr (SqT.of upd_same), rfl, rfl, ?_⟩
    refine ⟨by show 2 ≤ sizeLine; decide, fun p4 n4 => ?_⟩
    have s8 := s7.trans (same_upd (o := .lst [.bl (has sg 400 d), .bl (inV (.str d.shown) four)]) n4)
    have e3 := (same_upd (o := .lst [.bl (has sg 400 d), .bl (inV (.str d.shown) four)]) n4) _ _ ((same_upd (o := .tup four) nt) _ _ (s6 _ _ (upd_same (a := p3) (o := .lst ([.bl (isInt d), .bl (small 8 d)] ++ [.bl (letters d), .bl (has sg 4000 d), .bl (has (both sg) 4000 d)])))))
    refine ⟨p3, p4, _, _, rfl, rfl, e3, upd_same, by show 7 ≤ sizeLine; decide, fun p5 n5 => ?_⟩
    refine q p5 _ (s8.trans (same_upd n5)) ?_
    rw [upd_same, g4]
    rfl
end
end K0
set_option Elab.async false
set_option linter.all false
set_option maxRecDepth 100000
set_option maxHeartbeats 3200000
namespace K0
open PySem L2 Tx Tg Tm
/-! ### short plain texts -/
structure Short (z : Str) (n : Nat) : Prop where
  len : (cds z).length ≤ n
  plain : ∀ c ∈ cds z, c < 128
theorem Short.fine {z : Str} {n : Nat} (h : Short z n) (hn : n < 64) : Fine z := by
  have l := h.len
  refine ⟨by rw [cds_len] at l; omega, ?_, h.plain⟩
  have := met_len (cds z) []
  have e : ([] : List Nat).length = 0 := rfl
  omega
theorem cds_app (a b : Str) : cds (a ++ b) = cds a ++ cds b := by
  show (a.cps ++ b.cps).toList = _
  rw [Array.toList_append]
theorem Short.app {a b : Str} {m n : Nat} (h : Short a m) (k : Short b n) : Short (a ++ b) (m + n) := by
  refine ⟨?_, fun c hc => ?_⟩
  · rw [cds_app, List.length_append]
    have := h.len
    have := k.len
    omega
  · rw [cds_app] at hc
    rcases List.mem_append.mp hc with q | q
    · exact h.plain c q
    · exact k.plain c q
theorem Short.cut {z : Str} {n : Nat} (h : Short z n) (lo hi : Option Int) : Short (cutS z lo hi) n := by
  have e : cds (cutS z lo hi) = ((cds z).drop (HT.sIx z.length 0 lo)).take (HT.sIx z.length z.length hi - HT.sIx z.length 0 lo) := by
    unfold cutS
    simp
  refine ⟨?_, fun c hc => ?_⟩
  · rw [e, List.length_take, List.length_drop]
    have := h.len
    omega
  · rw [e] at hc
    exact h.plain c (List.mem_of_mem_drop (List.mem_of_mem_take hc))
theorem Short.one {c : Nat} (h : c < 128) : Short (one c) 1 := ⟨Nat.le_refl 1, fun d hd => by rw [List.mem_singleton.mp (show d ∈ [c] from hd)]; exact h⟩
theorem lo1_lt {c : Nat} (h : c < 128) : PyProof.Rows.lo1 c < 128 := by
  unfold PyProof.Rows.lo1
  split <;> omega
theorem Short.lower {z : Str} {n : Nat} (h : Short z n) : Short (Txt.lower z) n := by
  rw [PyProof.Rows.lower_ascii h.plain]
  have e : cds (⟨z.cps.map PyProof.Rows.lo1⟩ : Str) = (cds z).map PyProof.Rows.lo1 := Array.toList_map
  refine ⟨by rw [e, List.length_map]; exact h.len, fun c hc => ?_⟩
  rw [e] at hc
  obtain ⟨d, hd, rfl⟩ := List.mem_map.mp hc
  exact lo1_lt (h.plain d hd)
theorem join_ones : ∀ l : List Nat, cds (Str.join (Str.ofString "") (l.map one)) = l
  | [] => rfl
  | [c] => rfl
  | c :: d :: l => by
    have ih := join_ones (d :: l)
    show cds (one c ++ Str.ofString "" ++ Str.join (Str.ofString "") ((d :: l).map one)) = _
    rw [cds_app, cds_app, ih]
    have e : cds (Str.ofString "") = [] := by decide +kernel
    rw [e]
    rfl
theorem fine_mul {c : Nat} (hc : c < 128) {n : Int} (h1 : 1 < n) (h2 : n ≤ 4001) : Fine (Txt.mul (one c) n) := by
  have e : cds (Txt.mul (one c) n) = List.replicate n.toNat c := by
    unfold Txt.mul
    rw [if_neg (by omega)]
    have e2 : (n == 1 || (one c).length == 0) = false := by
      have : (n == 1) = false := beq_eq_false_iff_ne.mpr (by omega)
      rw [this]
      rfl
    rw [e2, if_neg Bool.false_ne_true]
    have all : ∀ (k : Nat) (acc : Array Nat), ((List.replicate k (one c).cps).foldl (· ++ ·) acc).toList = acc.toList ++ List.replicate k c := by
      intro k
      induction k with
      | zero => intro acc; simp
      | succ k ih =>
        intro acc
        rw [List.replicate_succ, List.foldl_cons, ih, Array.toList_append, List.replicate_succ, List.append_assoc]
        rfl
    have := all n.toNat #[]
    simpa using this
  refine ⟨?_, ?_, fun d hd => ?_⟩
  · rw [← cds_len, e, List.length_replicate]
    omega
  · rw [e]
    have one_at : ∀ k acc, (∀ d ∈ acc, d = c) → acc.Nodup → (met acc (List.replicate k c)).length ≤ 1 := by
      intro k acc ha hn
      have h1 := met_nodup (List.replicate k c) acc hn
      have h2 : ∀ d ∈ met acc (List.replicate k c), d = c := fun d hd => by
        rcases (met_mem _ _ _).mp hd with q | q
        · exact ha d q
        · exact (List.mem_replicate.mp q).2
      generalize met acc (List.replicate k c) = l at h1 h2 ⊢
      match l, h1, h2 with
      | [], _, _ => exact Nat.zero_le _
      | [_], _, _ => exact Nat.le_refl _
      | x :: y :: l, h1, h2 =>
        exfalso
        have hx := h2 x List.mem_cons_self
        have hy := h2 y (List.mem_cons_of_mem _ List.mem_cons_self)
        have := (List.nodup_cons.mp h1).1
        rw [hx, hy] at this
        exact this List.mem_cons_self
    exact Nat.lt_of_le_of_lt (one_at n.toNat [] (fun d hd => by simp at hd) List.nodup_nil) (by decide)
  · rw [e] at hd
    rw [(List.mem_replicate.mp hd).2]
    exact hc
theorem mul_ok {c : Nat} {n : Int} (h1 : 1 < n) (h2 : n ≤ 4001) : MulOk (one c) n := by
  have hl : (one c).length = 1 := rfl
  refine ⟨?_, fun _ _ => ?_, fun _ _ => ?_⟩
  · rw [decide_eq_false (by omega), decide_eq_false (by omega)]
    rfl
  · rw [hl]
    have : (1 : Int) ≤ (2 ^ 63 - 1) / n := by
      refine Int.le_ediv_of_mul_le (by omega) ?_
      omega
    omega
  · rw [hl, Nat.one_mul]
    have e : PySem.Builtin.Str.tooLong n.toNat = decide (n.toNat > sizeLine) := rfl
    rw [e]
    refine decide_eq_false ?_
    rw [sizeLine_eq]
    omega
section
variable {X : Cx}
/-- s * n for a text of one sign -/
theorem op_mulS : OpR X (binaryOp .Mult) (fun x y H Q => ∃ (c : Nat) (n : Int), x = .str (one c) ∧ y = .int n ∧ 1 < n ∧ n ≤ 4001 ∧ Q (.str (Txt.mul (one c) n)) H) := by
  intro pins s σ H x y v u Q I rx ry h
  obtain ⟨c, n, rfl, rfl, h1, h2, q⟩ := h
  obtain ⟨t, rfl⟩ := rx
  obtain ⟨t', rfl⟩ := ry
  exact SB.mul (mul_ok h1 h2) fun t2 k => ⟨.str (Txt.mul (one c) n), H, I.tok _, ⟨t2, rfl⟩, q⟩
end
/-! ### the values -/
/-- numbers and texts that are judged -/
def Flat (x : V) : Prop := (∃ n, x = .int n ∧ Ok (.int n)) ∨ ∃ z, x = .str z ∧ Ok (.str z)
def Good (H : Hp) (x : V) : Prop := ∃ d, Val H x d ∧ Ok d
theorem Flat.good {x : V} (h : Flat x) (H : Hp) : Good H x := by
  rcases h with ⟨n, rfl, h⟩ | ⟨z, rfl, h⟩
  · exact ⟨_, .int n, h⟩
  · exact ⟨_, .str z, h⟩
theorem flat_int {n : Int} (h : n.natAbs < 2 ^ 1900) : Flat (.int n) := by
  refine .inl ⟨n, rfl, ?_⟩
  show n.natAbs.log2 < 1920
  rcases Nat.eq_zero_or_pos n.natAbs with e | e
  · rw [e]; decide
  · exact Nat.lt_trans ((Nat.log2_lt (by omega)).mpr h) (by decide)
theorem flat_str {z : Str} (h : Fine z) : Flat (.str z) := .inr ⟨z, rfl, h⟩
def spValues : Sp := fun vs H Q _ => ∃ (c : Addr) (cell : Int) (sg : Str), vs = [.ref c, .int cell, .str sg] ∧ Cup H c ∧ Signs sg ∧
  ∀ p (xs : List V) H', Cup H' c → But c H H' → H' p = some (.lst xs) → xs.length ≤ 100 → (∀ x ∈ xs, Good H' x) → Q (.ref p) H'
section
variable {P : Program} {w : World} {K : PySem.W.Frag} {mg : Str → Option Value} {base : Heap}
abbrev nValues : List Str := ["_law_cup_here", "_law_cell", "_law_signs_here", "_law_near", "_law_great", "_law_found", "_law_turn", "_law_line", "_law_spot", "_law_at"]
theorem scValues : FnScope nValues ["_law_cup_here", "_law_cell", "_law_signs_here"] (defScope sValues) := ⟨rfl, rfl, rfl, by decide +kernel, rfl, by decide +kernel, by decide +kernel⟩
theorem lt_big {n : Int} (h0 : 0 ≤ n) (h : n < 100) : n.natAbs < 2 ^ 9000 :=
  Nat.lt_of_lt_of_le (show n.natAbs < 2 ^ 7 by omega) (Nat.pow_le_pow_right (by decide) (by decide))
theorem signs_first {sg : Str} (h : Signs sg) : ∃ c0 c1, c0 < 128 ∧ c1 < 128 ∧ atI (cds sg) 0 = some c0 ∧ sg.length ≤ 3 ∧ Txt.upper (one c0) = one c1 := by
  rcases h with rfl | rfl | rfl | rfl
  · exact ⟨97, 65, by decide, by decide, by decide +kernel, by decide +kernel, by decide +kernel⟩
  · exact ⟨120, 88, by decide, by decide, by decide +kernel, by decide +kernel, by decide +kernel⟩
  · exact ⟨97, 65, by decide, by decide, by decide +kernel, by decide +kernel, by decide +kernel⟩
  · exact ⟨97, 65, by decide, by decide, by decide +kernel, by decide +kernel, by decide +kernel⟩
theorem line_small {z : Str} (h : z.length ≤ 1000) : z.length ≤ sizeLine := Nat.le_trans h (by decide)
theorem Short.line {z : Str} {n : Nat} (h : Short z n) (hn : n ≤ 1000) : z.length ≤ sizeLine := line_small (by have := h.len; rw [cds_len] at this; omega)
theorem sum_ones : ∀ l : List Nat, ((l.map one).map (·.length)).sum = l.length
  | [] => rfl
  | c :: l => by
    show (one c).length + ((l.map one).map (·.length)).sum = l.length + 1
    rw [sum_ones l]
    show 1 + l.length = l.length + 1
    omega
theorem join_short {l : List Nat} {n : Nat} (hl : l.length ≤ n) (hp : ∀ c ∈ l, c < 128) : Short (Txt.join (Str.ofString "") (l.map one)) n := by
  rw [TL.join_eq]
  exact ⟨by rw [join_ones]; exact hl, by rw [join_ones]; exact hp⟩
theorem empty_len : (Str.ofString "").length = 0 := by decide +kernel
/-- behind so many turns: the row at p holds numbers and texts -/
def Loop (H : Hp) (c : Addr) (cell near great : Int) (sg : Str) (i : Nat) (σ : L2.St) (H1 : Hp) : Prop :=
  ∃ (p : Addr) (xs : List V) (t l k : Option V), σ = [some (.ref c), some (.int cell), some (.str sg), some (.int near), some (.int great), some (.ref p), t, l, k, none] ∧ Cup H1 c ∧ But c H H1 ∧ p ≠ c ∧
    H1 p = some (.lst xs) ∧ xs.length ≤ 21 + 3 * i ∧ ∀ x ∈ xs, Flat x
/-- the signs drawn so far -/
def Drawn (H : Hp) (c D : Addr) (i : Nat) (H1 : Hp) : Prop := Cup H1 c ∧ But c H H1 ∧ ∃ l : List Nat, l.length = i ∧ (∀ d ∈ l, d < 128) ∧ H1 D = some (.lst (ones l))
theorem menu_plain : ∀ d ∈ cds (Str.ofString "aabbcxyzABX"), d < 128 := by decide +kernel
theorem menu_short {x : V} (h : x ∈ [V.str "Q", .str "7", .str " ", .str "_", .str "\n", .str "@", .str "{", .str "["]) : ∃ z, x = .str z ∧ Short z 1 := by
  simp only [List.mem_cons, List.not_mem_nil, or_false] at h
  rcases h with rfl | rfl | rfl | rfl | rfl | rfl | rfl | rfl <;> exact ⟨_, rfl, by decide +kernel, by decide +kernel⟩
theorem ok_values {f fB fP : Addr} {fd fdB fdP : FuncData} (F : Fun K "_law_values" "_law_values" sValues f fd) (T : Txt K mg) (DB : Df K mg "_law_bit" sBit ["_law_cup_here", "_law_much"] fB fdB)
    (DP : Df K mg "_law_pick" sPick ["_law_cup_here", "_law_items"] fP fdP) : FnOk P w K mg base CX0 3 f fd ["_law_cup_here", "_law_cell", "_law_signs_here"] spValues := by
  have GB := ok_bit (P := P) (w := w) (base := base) DB.F T
  have GP := ok_pick (P := P) (w := w) (base := base) DP.F T DB
  refine F.ok scValues (fun vs H Q E h => ?_) (fun cdv A outer s H vs Q E hr h => ?_)
  · obtain ⟨c, cell, sg, rfl, _⟩ := h
    rfl
  · obtain ⟨c, cell, sg, rfl, hc, hsg, q⟩ := h
    have hr1 : Room 1 _ := hr.mono (by decide)
    refine ⟨_, pss_cons (ps_par (i := 3) (j := 4) (by rfl) scValues.nd rfl rfl (by decide) rfl rfl (pa_cons (pe_op op_powW (pe_op op_pow pe_int pe_int) pe_int)
        (pa_cons (pe_op op_modN (pe_callTy call_int1 (by rfl) T.int (by decide +kernel) (pa_cons (pv 1) pa_nil)) (pe_op op_mul (pe_op op_powW (pe_op op_pow pe_int pe_int) pe_int) (pe_op op_pow pe_int pe_int))) pa_nil)) (by rfl))
      (pss_cons (ps_set (i := 5) scValues.nd rfl (Or.inl rfl) (pe_lst (pa_cons (pe_op op_sub (pv 3) pe_int) (pa_cons (pv 3) (pa_cons (pe_op op_sub pe_int (pv 3)) (pa_cons (pe_op op_sub pe_int (pv 3)) (pa_cons (pv 4) (pa_cons (pe_op op_sub pe_int (pv 4))
        (pa_cons (pe_call GB hr1 (by rfl) DB.m DB.F.kp DB.b .nil pass0 (pa_cons (pv 0) (pa_cons pe_int pa_nil))) (pa_cons pe_int (pa_cons pe_int (pa_cons pe_int (pa_cons pe_int (pa_cons pe_int (pa_cons pe_int (pa_cons pe_int pa_nil))))))))))))))))
      (pss_cons (ps_set (i := 5) scValues.nd rfl (Or.inl rfl) (pe_op op_cat (pv 5) (pe_lst (pa_cons (pe_op op_mulS (pe_ix ix_str (pv 2) pe_int (fun _ _ => rfl)) pe_int) (pa_cons (pe_op op_mulS (pe_ix ix_str (pv 2) pe_int (fun _ _ => rfl)) pe_int)
        (pa_cons (pe_op op_mulS (pe_ix ix_str (pv 2) pe_int (fun _ _ => rfl)) pe_int) (pa_cons (pe_op op_mulS (pe_bm0 PySem.F.plainAttrs_str PySem.F.slot_str_upper PySem.F.type_str_upper mt_upper (pe_ix ix_str (pv 2) pe_int (fun _ _ => rfl))) pe_int)
        (pa_cons pe_str (pa_cons pe_str (pa_cons pe_str pa_nil))))))))))
      (pss_cons (ps_for PassesOwn.never rfl (pi_range1 rfl T.range (pa_cons pe_int pa_nil)) (pg_name (i := 6) scValues.nd rfl (Or.inl rfl))
        (pss_cons (ps_set (i := 7) scValues.nd rfl (Or.inl rfl) (pe_bm PySem.F.plainAttrs_str PySem.F.slot_str_join PySem.F.type_str_join mt_join pe_str (pa_cons
          (pe_lc (own := [("_law_at", 9)]) (g := gName 9) (tt := tYes) rfl scValues.nd (pi_range1 rfl T.range (pa_cons (pe_call GB hr1 (by rfl) DB.m DB.F.kp DB.b .nil pass0 (pa_cons (pv 0) (pa_cons pe_int pa_nil))) pa_nil))
            (blkOk_by (own := [("_law_at", 9)]) (N := nValues) (sc := defScope sValues) (by decide +kernel)) (fun _ _ _ _ _ => pg_name (i := 9) scValues.nd rfl (Or.inl rfl)) (fun _ _ _ _ _ => pts_nil)
            (fun _ _ _ _ _ => pe_call GP hr (by rfl) DP.m DP.F.kp DP.b .nil pass0 (pa_cons (pv 0) (pa_cons pe_str pa_nil)))) pa_nil)))
        (pss_cons (ps_set (i := 8) scValues.nd rfl (Or.inl rfl) (pe_call GB hr1 (by rfl) DB.m DB.F.kp DB.b .nil pass0 (pa_cons (pv 0) (pa_cons (pe_op op_add (pe_callB call_len_str (by rfl) T.len PySem.boot_len (pa_cons (pv 7) pa_nil)) pe_int) pa_nil))))
        (pss_cons (ps_set (i := 5) scValues.nd rfl (Or.inl rfl) (pe_op op_cat (pv 5) (pe_lst (pa_cons (pv 7) (pa_cons (pe_op op_add_str (pe_op op_add_str (pe_slice sl_str (pv 7) po_none (po_some (pv 8)))
            (pe_call GP hr (by rfl) DP.m DP.F.kp DP.b .nil pass0 (pa_cons (pv 0) (pa_cons (pe_lst (pa_cons pe_str (pa_cons pe_str (pa_cons pe_str (pa_cons pe_str (pa_cons pe_str (pa_cons pe_str (pa_cons pe_str (pa_cons pe_str pa_nil))))))))) pa_nil))))
            (pe_slice sl_str (pv 7) (po_some (pv 8)) po_none)) pa_nil)))))
        (pss_one (ps_expr (pe_bm PySem.F.plainAttrs_list PySem.F.slot_list_append PySem.F.type_list_append mt_append (pv 5) (pa_cons (pe_slice sl_str
            (pe_bm PySem.F.plainAttrs_str PySem.F.slot_str_join PySem.F.type_str_join mt_join pe_str (pa_cons (pe_callB (cr_sortTx rfl) (by rfl) T.sorted (by decide +kernel) (pa_cons (pe_callTy (cr_setTx rfl) (by rfl) T.set (by decide +kernel)
              (pa_cons (pe_bm0 PySem.F.plainAttrs_str PySem.F.slot_str_lower PySem.F.type_str_lower mt_lower (pv 7)) pa_nil)) pa_nil)) pa_nil))
            po_none (po_some (pe_call GB hr1 (by rfl) DB.m DB.F.kp DB.b .nil pass0 (pa_cons (pv 0) (pa_cons pe_int pa_nil))))) pa_nil))))))))
      (pss_one (ps_ret (pe_op op_cat (pv 5) (pe_lst (pa_cons pe_bl (pa_cons pe_bl (pa_cons pe_non (pa_cons (pe_lst pa_nil) (pa_cons pe_dnewK (pa_cons (pe_tup pa_nil) (pa_cons (pe_tup (pa_cons pe_str pa_nil))
        (pa_cons (pe_lst (pa_cons pe_str pa_nil)) (pa_cons (pe_disp (pps_cons pe_str pe_int pps_nil) (by rfl) (by rfl) (fun z => by cases z) (by decide)) (pa_cons (pe_tup (pa_cons pe_int pa_nil))
        (pa_cons (pe_op op_mul pe_int (pe_op op_pow pe_int pe_int)) pa_nil)))))))))))))))))), ?_⟩
    obtain ⟨c0, c1, hc0, hc1, at0, hlen, hup⟩ := signs_first hsg
    have lsg := line_small (z := sg) (by omega)
    have pw : ∀ {j : Int}, j = 50 ∨ j = 10 ∨ j = 60 → CPow 10 j := fun h => by rcases h with rfl | rfl | rfl <;> exact ⟨by decide, by decide, by decide⟩
    have ne0 : (((10 : Int) ^ Int.toNat 50) ^ Int.toNat 4) * 10 ^ Int.toNat 10 ≠ 0 := by decide +kernel
    have g0 : 0 ≤ cell.fmod ((((10 : Int) ^ Int.toNat 50) ^ Int.toNat 4) * 10 ^ Int.toNat 10) ∧ cell.fmod ((((10 : Int) ^ Int.toNat 50) ^ Int.toNat 4) * 10 ^ Int.toNat 10) < (((10 : Int) ^ Int.toNat 50) ^ Int.toNat 4) * 10 ^ Int.toNat 10 := by
      have pos : (0 : Int) < (((10 : Int) ^ Int.toNat 50) ^ Int.toNat 4) * 10 ^ Int.toNat 10 := by decide +kernel
      rw [Int.fmod_eq_emod_of_nonneg cell (Int.le_of_lt pos)]
      exact ⟨Int.emod_nonneg cell (Int.ne_of_gt pos), Int.emod_lt_of_pos cell pos⟩
    have big : (((10 : Int) ^ Int.toNat 50) ^ Int.toNat 4) * 10 ^ Int.toNat 10 < 2 ^ 1000 := by decide +kernel
    have gl : Int.natAbs (cell.fmod ((((10 : Int) ^ Int.toNat 50) ^ Int.toNat 4) * 10 ^ Int.toNat 10)) < 2 ^ 1900 := by
      have a := Int.lt_trans g0.2 big
      have b : ((2 ^ 1000 : Nat) : Int) = 2 ^ 1000 := by norm_cast
      rw [← b] at a
      have c := g0.1
      refine Nat.lt_trans ?_ (show 2 ^ 1000 < 2 ^ 1900 from Nat.pow_lt_pow_right (by decide) (by decide))
      generalize (2 ^ 1000 : Nat) = M at a ⊢
      omega
    have nl : ∀ k : Int, k = ((10 : Int) ^ Int.toNat 50) ^ Int.toNat 4 - 1 ∨ k = ((10 : Int) ^ Int.toNat 50) ^ Int.toNat 4 ∨ k = 0 - ((10 : Int) ^ Int.toNat 50) ^ Int.toNat 4 ∨ k = 1 - ((10 : Int) ^ Int.toNat 50) ^ Int.toNat 4 → Flat (.int k) := by
      rintro k (rfl | rfl | rfl | rfl) <;> exact flat_int (by decide +kernel)
    obtain ⟨near, great, hvw, gl, nl⟩ : ∃ near great : Int, [V.int (((10 : Int) ^ Int.toNat 50) ^ Int.toNat 4), V.int (cell.fmod ((((10 : Int) ^ Int.toNat 50) ^ Int.toNat 4) * 10 ^ Int.toNat 10))] = [V.int near, V.int great] ∧
        great.natAbs < 2 ^ 1900 ∧ ∀ k : Int, k = near - 1 ∨ k = near ∨ k = 0 - near ∨ k = 1 - near → Flat (.int k) := ⟨_, _, rfl, gl, nl⟩
    refine ⟨_, _, rfl, rfl, pw (.inl rfl), _, _, rfl, rfl, ⟨by decide, by decide +kernel⟩, _, rfl, .inl ⟨_, rfl, _, _, rfl, rfl, pw (.inl rfl), _, _, rfl, rfl, ⟨by decide, by decide +kernel⟩,
      _, _, rfl, rfl, pw (.inr (.inl rfl)), _, _, rfl, rfl, .inr ⟨by decide, by decide⟩, _, _, rfl, rfl, ne0, .int near, .int great, hvw, ?_⟩⟩
    have gneg : Flat (.int (0 - great)) := flat_int (by have e : (0 - great).natAbs = great.natAbs := by omega
                                                        rw [e]; exact gl)
    have fl : ∀ k : Int, -100 < k → k < 100 → Flat (.int k) := fun k h1 h2 => flat_int (Nat.lt_of_lt_of_le (show k.natAbs < 2 ^ 7 by omega) (Nat.pow_le_pow_right (by decide) (by decide)))
    refine ⟨_, rfl, _, _, rfl, rfl, _, rfl, _, rfl, _, _, rfl, rfl, _, rfl, _, _, rfl, rfl, _, rfl, _, rfl, _, _, rfl, rfl, _, rfl, c, 12, rfl, hc, by decide, lt_big (by decide) (by decide), fun r H1 r0 r1 hc1 b1 => ?_⟩
    refine ⟨by show 14 ≤ sizeLine; decide, fun p1 n1 => ?_⟩
    have f1 : ∀ x ∈ [V.int (near - 1), .int near, .int (0 - near), .int (1 - near), .int great, .int (0 - great), .int r, .int 2, .int 3, .int 5, .int 7, .int 11, .int 1, .int 0], Flat x := by
      intro x hx
      simp only [List.mem_cons, List.not_mem_nil, or_false] at hx
      rcases hx with rfl | rfl | rfl | rfl | rfl | rfl | rfl | rfl | rfl | rfl | rfl | rfl | rfl | rfl
      · exact nl _ (.inl rfl)
      · exact nl _ (.inr (.inl rfl))
      · exact nl _ (.inr (.inr (.inl rfl)))
      · exact nl _ (.inr (.inr (.inr rfl)))
      · exact flat_int gl
      · exact gneg
      · exact fl _ (by omega) (by omega)
      all_goals exact fl _ (by decide) (by decide)
    have at0' : atI sg.cps.toList (0 : Int) = some c0 := at0
    refine ⟨_, rfl, _, rfl, sg, _, c0, rfl, rfl, lsg, at0', c0, 400, rfl, rfl, by decide, by decide, ?_⟩
    refine ⟨_, rfl, sg, _, c0, rfl, rfl, lsg, at0', c0, 401, rfl, rfl, by decide, by decide, ?_⟩
    refine ⟨_, rfl, sg, _, c0, rfl, rfl, lsg, at0', c0, 4000, rfl, rfl, by decide, by decide, ?_⟩
    refine ⟨_, rfl, sg, _, c0, rfl, rfl, lsg, at0', rfl, one c0, rfl, rfl, (show 1 ≤ 5592405 by decide), c1, 4000, congrArg V.str hup, rfl, by decide, by decide, ?_⟩
    refine ⟨by show 7 ≤ sizeLine; decide, fun p2 n2 => ?_⟩
    have f2 : ∀ x ∈ [V.str (Txt.mul (one c0) 400), .str (Txt.mul (one c0) 401), .str (Txt.mul (one c0) 4000), .str (Txt.mul (one c1) 4000), .str "", .str "abcdefgh", .str "abcdefghi"], Flat x := by
      intro x hx
      simp only [List.mem_cons, List.not_mem_nil, or_false] at hx
      rcases hx with rfl | rfl | rfl | rfl | rfl | rfl | rfl
      · exact flat_str (fine_mul hc0 (by decide) (by decide))
      · exact flat_str (fine_mul hc0 (by decide) (by decide))
      · exact flat_str (fine_mul hc0 (by decide) (by decide))
      · exact flat_str (fine_mul (by assumption) (by decide) (by decide))
      · exact flat_str (Short.fine (n := 9) ⟨by decide +kernel, by decide +kernel⟩ (by decide))
      · exact flat_str (Short.fine (n := 9) ⟨by decide +kernel, by decide +kernel⟩ (by decide))
      · exact flat_str (Short.fine (n := 9) ⟨by decide +kernel, by decide +kernel⟩ (by decide))
    have n12 : p1 ≠ p2 := ne_of_none upd_same n2
    refine ⟨p1, p2, _, _, rfl, rfl, (by rw [upd_ne n12]; exact upd_same), upd_same, by show 21 ≤ sizeLine; decide, fun p3 n3 => ?_⟩
    have k3 : Same H1 (upd (upd (upd H1 p1 _) p2 _) p3 _) := ((same_upd (o := .lst [V.int (near - 1), .int near, .int (0 - near), .int (1 - near), .int great, .int (0 - great), .int r, .int 2, .int 3, .int 5, .int 7, .int 11, .int 1, .int 0]) n1).trans
      (same_upd (o := .lst [V.str (Txt.mul (one c0) 400), .str (Txt.mul (one c0) 401), .str (Txt.mul (one c0) 4000), .str (Txt.mul (one c1) 4000), .str "", .str "abcdefgh", .str "abcdefghi"]) n2)).trans (same_upd (o := .lst ([V.int (near - 1), .int near, .int (0 - near), .int (1 - near), .int great, .int (0 - great), .int r, .int 2, .int 3, .int 5, .int 7, .int 11, .int 1, .int 0] ++
        [V.str (Txt.mul (one c0) 400), .str (Txt.mul (one c0) 401), .str (Txt.mul (one c0) 4000), .str (Txt.mul (one c1) 4000), .str "", .str "abcdefgh", .str "abcdefghi"])) n3)
    have hc3 : Cup _ c := Cup.same k3 (by assumption)
    have ne3 : p3 ≠ c := by
      obtain ⟨a, b, d, e⟩ := Cup.same ((same_upd (o := .lst [V.int (near - 1), .int near, .int (0 - near), .int (1 - near), .int great, .int (0 - great), .int r, .int 2, .int 3, .int 5, .int 7, .int 11, .int 1, .int 0]) n1).trans
        (same_upd (o := .lst [V.str (Txt.mul (one c0) 400), .str (Txt.mul (one c0) 401), .str (Txt.mul (one c0) 4000), .str (Txt.mul (one c1) 4000), .str "", .str "abcdefgh", .str "abcdefghi"]) n2)) (show Cup H1 c by assumption)
      exact (ne_of_none e n3).symm
    refine ⟨4, rfl, by decide, by decide, for_range (n := 4) (Loop H c cell near great sg) ⟨p3, _, none, none, none, rfl, hc3, b1.trans (But.of k3), ne3, upd_same, (show 21 ≤ 21 + 3 * 0 by decide), fun x hx => ?_⟩ ?_ ?_⟩
    · rcases List.mem_append.mp hx with z | z
      · exact f1 x z
      · exact f2 x z
    · rintro i σ H2 hi ⟨p, xs, t, l, k, rfl, hc2, b2, np, hp, hl, hf⟩
      refine ⟨rfl, _, rfl, c, 9, rfl, hc2, by decide, lt_big (by decide) (by decide), fun m H3 m0 m1 hc3 b3 => ?_⟩
      refine ⟨m, rfl, by omega, by omega, fun D hD => ?_⟩
      have hDc : D ≠ c := hc3.ne hD
      refine lc_range (lo := 0) (n := m.toNat) (Drawn H3 c D) ⟨hc3.same (same_upd hD), But.of (same_upd hD), [], rfl, fun d hd => by simp at hd, upd_same⟩ ?_ ?_
      · rintro j H4 hj ⟨hc4, b4, L, hL, hLp, e4⟩
        refine ⟨rfl, iteT (B := Drawn H3 c D (j + 1) H4) ?_⟩
        refine ⟨_, rfl, c, hc4, .inr ⟨_, rfl, by decide +kernel, by decide +kernel, fun d H5 hd hc5 b5 => ?_⟩⟩
        have e5 := b5 _ _ hDc e4
        refine ⟨_, e5, ?_, ?_, fun b o n e => ?_, L ++ [d], by rw [List.length_append, hL]; rfl, fun x hx => ?_, ?_⟩
        · rw [List.length_map, hL]
          exact Nat.lt_of_lt_of_le (show j < 9 by omega) (by decide)
        · obtain ⟨u1, u2, u3, u4⟩ := hc5
          exact ⟨u1, u2, u3, by rw [upd_ne hDc.symm]; exact u4⟩
        · rw [upd_ne (ne_of_none e hD)]
          exact b5 _ _ n (b4 _ _ n e)
        · rcases List.mem_append.mp hx with z | z
          · exact hLp x z
          · rw [List.mem_singleton.mp z]
            exact menu_plain d hd
        · rw [upd_same, show ones (L ++ [d]) = ones L ++ [.str (one d)] from List.map_append]
      · rintro H4 ⟨hc4, b4, L, hL, hLp, e4⟩
        have sh : Short (Txt.join (Str.ofString "") (L.map one)) 8 := join_short (by omega) hLp
        have hsum : ((L.map one).map (·.length)).sum + (L.map one).length * (Str.ofString "").length ≤ 16777216 := by
          rw [sum_ones, empty_len, hL]
          omega
        refine ⟨_, D, L.map one, rfl, rfl, .inl (SqL.of (by rw [← ones_map]; exact e4)), hsum, ?_⟩
        generalize Txt.join (Str.ofString "") (L.map one) = line at sh ⊢
        have hp4 : H4 p = some (.lst xs) := b4 _ _ np (b3 _ _ np hp)
        refine ⟨_, rfl, _, rfl, line, rfl, sh.line (by decide), _, _, rfl, rfl, c, _, rfl, hc4, by omega, lt_big (by omega) ?_, fun spot H5 s0 s1 hc5 b5 => ?_⟩
        · have := sh.len
          rw [cds_len] at this
          omega
        have hp5 := b5 _ _ np hp4
        refine ⟨_, rfl, _, rfl, _, rfl, _, rfl, _, rfl, line, rfl, sh.line (by decide), _, rfl, by show 8 ≤ sizeLine; decide, fun pl nl => ?_⟩
        have hpl : pl ≠ c := hc5.ne nl
        refine ⟨c, hc5.same (same_upd nl), .inl ⟨pl, _, rfl, hpl, upd_same, by decide, by decide, fun x H6 hx hc6 b6 => ?_⟩⟩
        obtain ⟨z, rfl, hz⟩ := menu_short hx
        have b56 : But c H5 H6 := (But.of (same_upd nl)).trans b6
        have hp6 := b56 _ _ np hp5
        have sA : Short (cutS line none (some spot)) 8 := sh.cut _ _
        have sB : Short (cutS line (some spot) none) 8 := sh.cut _ _
        have sAz := sA.app hz
        have sAll := sAz.app sB
        have fit : ∀ {u v : Str} {m n : Nat}, Short u m → Short v n → m + n ≤ 1000 → u.length + v.length ≤ sizeLine := fun hu hv h => by
          have a := hu.len
          have b := hv.len
          rw [cds_len] at a b
          exact Nat.le_trans (show _ ≤ 1000 by omega) (by decide)
        refine ⟨_, _, rfl, rfl, fit sA hz (by decide), _, rfl, _, rfl, _, rfl, line, rfl, sh.line (by decide), _, _, rfl, rfl, fit sAz sB (by decide), ?_⟩
        refine ⟨by show 2 ≤ sizeLine; decide, fun p4 n4 => ?_⟩
        have n64 : p ≠ p4 := ne_of_none hp6 n4
        refine ⟨p, p4, _, _, rfl, rfl, (by rw [upd_ne n64]; exact hp6), upd_same, ?_, fun p5 n5 => ?_⟩
        · exact Nat.le_trans (show xs.length + 2 ≤ 1000 by omega) (by decide)
        have sl : Short (Txt.lower line) 8 := sh.lower
        have few : (met [] (Txt.lower line).cps.toList).length < 64 := (sl.fine (by decide)).few
        refine ⟨_, rfl, .inl ⟨rfl, _, SqL.of upd_same⟩, rfl, _, rfl, rfl, line, rfl, rfl, ?_, Txt.lower line, rfl, few, fun ps ns => ?_⟩
        · have a := sh.len
          rw [cds_len] at a
          omega
        refine ⟨ps, _, rfl, upd_same, few, fun pso nso => ?_⟩
        have ul : (ups (Txt.lower line).cps.toList).length ≤ 8 := by
          rw [(ups_perm _).length_eq]
          refine Nat.le_trans (met_len (Txt.lower line).cps.toList []) ?_
          rw [List.length_nil, Nat.zero_add]
          exact sl.len
        have up : ∀ d ∈ ups (Txt.lower line).cps.toList, d < 128 := fun d hd => sl.plain d ((ups_mem _ _).mp hd)
        have hsum2 : (((ups (Txt.lower line).cps.toList).map one).map (·.length)).sum + ((ups (Txt.lower line).cps.toList).map one).length * (Str.ofString "").length ≤ 16777216 := by
          rw [sum_ones, empty_len]
          omega
        refine ⟨_, pso, _, rfl, rfl, .inl (SqL.of (by rw [← ones_map]; exact upd_same)), hsum2, ?_⟩
        have sj := join_short ul up
        generalize Txt.join (Str.ofString "") ((ups (Txt.lower line).cps.toList).map one) = low at sj ⊢
        have kk := ((((same_upd (o := .lst [.str line, .str (cutS line none (some spot) ++ z ++ cutS line (some spot) none)]) n4).trans (same_upd (o := .lst (xs ++ [.str line, .str (cutS line none (some spot) ++ z ++ cutS line (some spot) none)])) n5)).trans
          (same_upd (o := TO w ps (met [] (Txt.lower line).cps.toList)) ns)).trans (same_upd (o := .lst (ones (ups (Txt.lower line).cps.toList))) nso))
        have hc7 := hc6.same kk
        refine ⟨_, rfl, c, 5, rfl, hc7, by decide, lt_big (by decide) (by decide), fun r8 H8 _ _ hc8 b8 => ?_⟩
        have e5 := b8 p5 _ ?_ ((same_upd (o := .lst (ones (ups (Txt.lower line).cps.toList))) nso) _ _ ((same_upd (o := TO w ps (met [] (Txt.lower line).cps.toList)) ns) _ _ (upd_same (a := p5))))
        · have hp5c : p5 ≠ c := (hc6.same (same_upd n4)).ne n5
          refine ⟨r8, rfl, low, rfl, sj.line (by decide), p5, _, _, rfl, rfl, e5, ?_, ?_⟩
          · rw [List.length_append]
            exact Nat.lt_of_lt_of_le (show xs.length + 2 < 1000 by omega) (by decide)
          · refine ⟨p5, _, _, _, _, rfl, ?_, fun b o n e => ?_, hp5c, upd_same, ?_, fun x hx => ?_⟩
            · obtain ⟨u1, u2, u3, u4⟩ := hc8
              exact ⟨u1, u2, u3, by rw [upd_ne hp5c.symm]; exact u4⟩
            · have e6 := b56 _ _ n (b5 _ _ n (b4 _ _ n (b3 _ _ n (b2 _ _ n e))))
              have e7 := (same_upd (o := .lst [.str line, .str (cutS line none (some spot) ++ z ++ cutS line (some spot) none)]) n4) _ _ e6
              rw [upd_ne (ne_of_none e7 n5)]
              exact b8 _ _ n (kk _ _ e6)
            · rw [List.length_append, List.length_append]
              show xs.length + 2 + 1 ≤ 21 + 3 * (i + 1)
              omega
            · rcases List.mem_append.mp hx with y | y
              · rcases List.mem_append.mp y with y | y
                · exact hf x y
                · simp only [List.mem_cons, List.not_mem_nil, or_false] at y
                  rcases y with rfl | rfl
                  · exact flat_str (sh.fine (by decide))
                  · exact flat_str (sAll.fine (by decide))
              · rw [List.mem_singleton.mp y]
                exact flat_str ((sj.cut _ _).fine (by decide))
        · exact (hc6.same (same_upd n4)).ne n5
    · rintro σ H2 ⟨p, xs, t, l, k, rfl, hc2, b2, np, hp, hl, hf⟩
      have nilO : Ok (.list []) := ⟨by decide +kernel, by decide +kernel, by decide +kernel, by decide +kernel⟩
      refine ⟨_, rfl, by decide, fun q1 m1 => ?_⟩
      intro q2 m2
      refine ⟨by decide, fun q3 m3 => ?_⟩
      refine ⟨by show 1 ≤ sizeLine; decide, fun q4 m4 => ?_⟩
      refine ⟨by show 1 ≤ sizeLine; decide, fun q5 m5 => ?_⟩
      intro q6 m6
      refine ⟨upd_same, [(Sum.inr "a", .int 1)], rfl, by decide, ?_⟩
      refine ⟨by show 1 ≤ sizeLine; decide, fun q7 m7 => ?_⟩
      refine ⟨_, _, rfl, rfl, pw (.inr (.inr rfl)), _, _, rfl, rfl, .inl ⟨by decide, by decide⟩, by show 11 ≤ sizeLine; decide, fun q8 m8 => ?_⟩
      have s1 := same_upd (o := .lst []) m1
      have s2 := same_upd (o := .dK []) m2
      have s3 := same_upd (o := .tup []) m3
      have s4 := same_upd (o := .tup [.str "a"]) m4
      have s5 := same_upd (o := .lst [.str "a"]) m5
      have s6 : Same _ (upd (upd _ q6 (.dK [])) q6 (.dK (mergeK [] [(Sum.inr "a", .int 1)]))) := fun b o e => by
        rw [upd_ne (ne_of_none e m6), upd_ne (ne_of_none e m6)]
        exact e
      have s7 := same_upd (o := .tup [.int 2]) m7
      have s8 := same_upd (o := .lst [.bl true, .bl false, .non, .ref q1, .ref q2, .ref q3, .ref q4, .ref q5, .ref q6, .ref q7, .int (2 * 10 ^ Int.toNat 60)]) m8
      have t7 := s7.trans s8
      have t6 := s6.trans t7
      have t5 := s5.trans t6
      have t4 := s4.trans t5
      have t3 := s3.trans t4
      have t2 := s2.trans t3
      have t1 := s1.trans t2
      refine ⟨p, q8, xs, _, rfl, rfl, t1 _ _ hp, upd_same, ?_, fun q9 m9 => ?_⟩
      · exact Nat.le_trans (show xs.length + 11 ≤ 1000 by omega) (by decide)
      have s9 := same_upd (o := .lst (xs ++ [.bl true, .bl false, .non, .ref q1, .ref q2, .ref q3, .ref q4, .ref q5, .ref q6, .ref q7, .int (2 * 10 ^ Int.toNat 60)])) m9
      refine q q9 _ _ ((hc2.same t1).same s9) (b2.trans (But.of (t1.trans s9))) upd_same ?_ fun x hx => ?_
      · rw [List.length_append]
        show xs.length + 11 ≤ 100
        omega
      · rcases List.mem_append.mp hx with y | y
        · exact (hf x y).good _
        · simp only [List.mem_cons, List.not_mem_nil, or_false] at y
          rcases y with rfl | rfl | rfl | rfl | rfl | rfl | rfl | rfl | rfl | rfl | rfl
          · exact ⟨_, .bl true, by decide +kernel, by decide +kernel, by decide +kernel, by decide +kernel⟩
          · exact ⟨_, .bl false, by decide +kernel, by decide +kernel, by decide +kernel, by decide +kernel⟩
          · exact ⟨_, .non, by decide +kernel, by decide +kernel, by decide +kernel, by decide +kernel⟩
          · exact ⟨_, .lst [] (s9 _ _ (t2 _ _ upd_same)), by decide +kernel, by decide +kernel, by decide +kernel, by decide +kernel⟩
          · exact ⟨_, .dct [] (s9 _ _ (t3 _ _ upd_same)), by decide +kernel, by decide +kernel, by decide +kernel, by decide +kernel⟩
          · exact ⟨_, .tup [] (s9 _ _ (t4 _ _ upd_same)), by decide +kernel, by decide +kernel, by decide +kernel, by decide +kernel⟩
          · exact ⟨_, .tup ["a"] (s9 _ _ (t5 _ _ upd_same)), by decide +kernel, by decide +kernel, by decide +kernel, by decide +kernel⟩
          · exact ⟨_, .lst ["a"] (s9 _ _ (t6 _ _ upd_same)), by decide +kernel, by decide +kernel, by decide +kernel, by decide +kernel⟩
          · exact ⟨_, .dct [("a", 1)] (s9 _ _ (t7 _ _ upd_same)), by decide +kernel, by decide +kernel, by decide +kernel, by decide +kernel⟩
          · exact ⟨_, .tupI [2] (s9 _ _ (s8 _ _ upd_same)), by decide +kernel, by decide +kernel, by decide +kernel, by decide +kernel⟩
          · exact (flat_int (n := 2 * 10 ^ Int.toNat 60) (by decide +kernel)).good _
end
end K0
set_option Elab.async false
set_option linter.all false
set_option maxRecDepth 100000
set_option maxHeartbeats 3200000
namespace K0
open PySem L2 Tx Tg Tm
section
variable {P : Program} {w : World} {K : PySem.W.Frag} {mg : Str → Option Value} {base : Heap}
/-- the program's defs that may refuse -/
structure Judges (P : Program) (w : World) (K : PySem.W.Frag) (mg : Str → Option Value) (base : Heap) (C fT fS fP : Addr) (dT dS dP : FuncData) : Prop where
  T : FnOk P w K mg base (L2.CX P w) 4 fT dT ["letters", "value"] (spText C 4000)
  S : FnOk P w K mg base (L2.CX P w) 4 fS dS ["letters", "value"] (spSigned C)
  P : FnOk P w K mg base (L2.CX P w) 4 fP dP ["letters", "value"] (spText C 400)
  mT : mg "is_text" = some (.ref fT)
  mS : mg "is_signed" = some (.ref fS)
  mP : mg "is_pattern" = some (.ref fP)
  kT : PySem.W.keepIn K (.ref fT) = true
  kS : PySem.W.keepIn K (.ref fS) = true
  kP : PySem.W.keepIn K (.ref fP) = true
  bT : Binds K dT ["letters", "value"] []
  bS : Binds K dS ["letters", "value"] []
  bP : Binds K dP ["letters", "value"] []
def spJudged (C : Addr) : Sp := fun vs H Q E => ∃ (t : Int) (v : V) (d : PyData), vs = [.int t, v] ∧ Val H v d ∧ Ok d ∧ letters d = false ∧ ∀ H', Same H H' → E (.ref C) none H'
theorem scJudged : FnScope ["_law_turn", "_law_value"] ["_law_turn", "_law_value"] (defScope sJudged) := ⟨rfl, rfl, rfl, by decide +kernel, rfl, by decide +kernel, by decide +kernel⟩
theorem ok_judged {f C fT fS fP : Addr} {fd dT dS dP : FuncData} (F : Fun K "_law_judged" "_law_judged" sJudged f fd) (J : Judges P w K mg base C fT fS fP dT dS dP) :
    FnOk P w K mg base (L2.CX P w) 5 f fd ["_law_turn", "_law_value"] (spJudged C) := by
  refine F.okX scJudged (fun vs H Q E h => ?_) (fun cdv A outer s H vs Q E hr h => ?_)
  · obtain ⟨t, v, d, rfl, _⟩ := h
    rfl
  · obtain ⟨t, v, d, rfl, hv, hd, hl, q⟩ := h
    refine ⟨_, pss_cons (ps_if (pt_cmpR op_eq (pv 0) pe_int (nomark _)) (pss_one (ps_ret (pe_call J.T hr (by rfl) J.mT J.kT J.bT .nil (passes_call (takes_of rfl rfl rfl rfl) fun _ _ _ _ h => h) (pa_cons (pv 1) (pa_cons pe_int pa_nil))))) pss_nil)
      (pss_one (ps_ret (pe_ifExp (pt_cmpR op_eq (pv 0) pe_int (nomark _)) (pe_call J.S hr (by rfl) J.mS J.kS J.bS .nil (passes_call (takes_of rfl rfl rfl rfl) fun _ _ _ _ h => h) (pa_cons (pv 1) (pa_cons pe_int pa_nil)))
        (pe_call J.P hr (by rfl) J.mP J.kP J.bP .nil (passes_call (takes_of rfl rfl rfl rfl) fun _ _ _ _ h => h) (pa_cons (pv 1) (pa_cons pe_int pa_nil)))))), ?_⟩
    have o1 : Ok (.int 1) := by show (1 : Nat).log2 < 1920; decide
    have no : ∀ {B : Prop} {H' : Hp}, Same H H' → if letters d = true then B else E (.ref C) none H' := fun s => by
      rw [hl, if_neg Bool.false_ne_true]
      exact q _ s
    refine ⟨_, rfl, rfl, _, rfl, ?_⟩
    refine ite2 (fun _ => ?_) (fun _ => ?_)
    · exact ⟨_, rfl, v, .int 1, d, .int 1, rfl, hv, hd, .int 1, o1, fun H' s => no s⟩
    · refine ⟨_, rfl, rfl, _, rfl, ?_⟩
      refine ite2 (fun _ => ?_) (fun _ => ?_)
      · exact ⟨_, rfl, v, .int 1, d, .int 1, rfl, hv, hd, .int 1, o1, fun H' s => no s⟩
      · exact ⟨_, rfl, v, .int 1, d, .int 1, rfl, hv, hd, .int 1, o1, fun H' s => no s⟩

def spRefused : Sp := fun vs H Q _ => ∃ (v : V) (d : PyData), vs = [v] ∧ Val H v d ∧ Ok d ∧ letters d = false ∧ ∀ H', Same H H' → Q (.bl true) H'
/-- the reading of the try in a turn -/
def tTry (K : PySem.W.Frag) (C : Addr) : TS := fun D σ H => tDrop (tBM K "list" rAppend (tVar 1) (tCons (tCB (fun xs H Q => ∃ i, xs = [V.int i] ∧ i.natAbs.log2 < 1920 ∧ Q (.str (toString i)) H)
  (tCons (tCallS (spJudged C) (WE (wOnly K (.ref C) (fun _ _ _ => tDrop (tBM K "list" rAppend (tVar 1) (tCons (tC (.str "refused")) tNil))) (fun _ _ _ _ => False) D)) (tCons (tVar 2) (tCons (tVar 0) tNil))) tNil)) tNil)) D σ H
theorem scRefused : FnScope ["_law_value", "_law_found", "_law_turn"] ["_law_value"] (defScope sRefused) := ⟨rfl, rfl, rfl, by decide +kernel, rfl, by decide +kernel, by decide +kernel⟩
theorem ok_refused {f fJ C fT fS fP : Addr} {fd fdJ dT dS dP : FuncData} (F : Fun K "_law_refused" "_law_refused" sRefused f fd) (T : Txt K mg) (X : Ex K mg C) (J : Judges P w K mg base C fT fS fP dT dS dP) (DJ : Df K mg "_law_judged" sJudged ["_law_turn", "_law_value"] fJ fdJ) :
    FnOk P w K mg base CX0 6 f fd ["_law_value"] spRefused := by
  have G := ok_judged (P := P) (w := w) (base := base) DJ.F J
  refine F.ok scRefused (fun vs H Q E h => ?_) (fun cdv A outer s H vs Q E hr h => ?_)
  · obtain ⟨v, d, rfl, _⟩ := h
    rfl
  · obtain ⟨v, d, rfl, hv, hd, hl, q⟩ := h
    refine ⟨_, pss_cons (ps_set (i := 1) scRefused.nd rfl (Or.inl rfl) (pe_lst pa_nil))
      (pss_cons (ps_for PassesOwn.never rfl (pi_range1 rfl T.range (pa_cons pe_int pa_nil)) (pg_name (i := 2) scRefused.nd rfl (Or.inl rfl))
        (pss_one (ps_try_only (tb := fun W => tDrop (tBM K "list" rAppend (tVar 1) (tCons (tCB (fun xs H Q => ∃ i, xs = [V.int i] ∧ i.natAbs.log2 < 1920 ∧ Q (.str (toString i)) H) (tCons (tCallS (spJudged C) (WE W) (tCons (tVar 2) (tCons (tVar 0) tNil))) tNil)) tNil)))
          (ts := fun _ _ _ => tDrop (tBM K "list" rAppend (tVar 1) (tCons (tC (.str "refused")) tNil))) (Wout := fun _ _ _ _ => False) rfl rfl ⟨rfl, by decide, Or.inl X.g⟩ takes0
          (fun W pn xe tk _ => pss_one (ps_expr (pe_bm PySem.F.plainAttrs_list PySem.F.slot_list_append PySem.F.type_list_append mt_append (pv 1)
            (pa_cons (pe_callB SkE.call_repr_int (by rfl) T.repr (by decide +kernel) (pa_cons (pe_callS G hr (by rfl) DJ.m DJ.F.kp DJ.b (fun σ => passAt tk σ) (pa_cons (pv 2) (pa_cons (pv 0) pa_nil))) pa_nil)) pa_nil))))
          (fun _ _ _ _ _ _ _ => pss_one (ps_expr (pe_bm PySem.F.plainAttrs_list PySem.F.slot_list_append PySem.F.type_list_append mt_append (pv 1) (pa_cons pe_str pa_nil)))))))
      (pss_one (ps_ret (pe_cmpR (op_eqD hr.units) (pv 1) (pe_op op_rep (pe_lst (pa_cons pe_str pa_nil)) pe_int) (nomark _))))), ?_⟩
    refine ⟨by decide, fun p np => ?_⟩
    refine ⟨3, rfl, by decide, by decide, for_range (tb := tTry K C) (n := 3) (fun i σ H1 => ∃ t : Option V, σ = [some v, some (.ref p), t] ∧ Same H H1 ∧ H1 p = some (.lst (List.replicate i (.str "refused")))) ⟨none, rfl, same_upd np, upd_same⟩ ?_ ?_⟩
    · rintro i σ H1 hi ⟨t, rfl, s1, e1⟩
      refine ⟨_, rfl, .inl ⟨rfl, _, SqL.of e1⟩, _, rfl, _, rfl, _, v, d, rfl, hv.same s1, hd, hl, fun H2 s2 => ?_⟩
      refine ⟨true, X.e, fun _ a ha => ?_, fun z => nomatch z⟩
      have e2 := s2 _ _ e1
      refine ⟨_, rfl, .inl ⟨rfl, _, SqL.of e2⟩, p, _, _, rfl, rfl, e2, ?_, ?_⟩
      · rw [List.length_replicate]
        exact Nat.lt_of_lt_of_le hi (by decide)
      · refine ⟨_, rfl, fun b o e => ?_, ?_⟩
        · rw [upd_ne (ne_of_none e np)]
          exact s2 _ _ (s1 _ _ e)
        · rw [upd_same, ← List.replicate_succ']
    · rintro σ H1 ⟨t, rfl, s1, e1⟩
      refine ⟨_, rfl, by decide, fun p1 n1 => ?_⟩
      refine ⟨p1, 3, _, rfl, rfl, upd_same, by decide, by decide, by decide, fun p2 n2 => ?_⟩
      have k1 := same_upd (o := .lst [.str "refused"]) n1
      have k2 := same_upd (o := .lst (List.replicate (Int.toNat 3) [V.str "refused"]).flatten) n2
      have three : ∀ H : Hp, DpAll K H [.str "refused", .str "refused", .str "refused"] [.str "refused", .str "refused", .str "refused"] := fun H => .cons (.str _) (.cons (.str _) (.cons (.str _) .nil))
      refine ⟨.list [.str "refused", .str "refused", .str "refused"], .list [.str "refused", .str "refused", .str "refused"], .lst (SqL.of (k2 _ _ (k1 _ _ e1))) (three _), .lst (SqL.of upd_same) (three _), by decide +kernel, by decide +kernel, ?_⟩
      have e3 : PyData.eqv (.list [.str "refused", .str "refused", .str "refused"]) (.list [.str "refused", .str "refused", .str "refused"]) = true := by decide +kernel
      rw [e3]
      exact q _ ((s1.trans k1).trans k2)
end
end K0
set_option Elab.async false
set_option linter.all false
set_option maxRecDepth 100000
set_option maxHeartbeats 3200000
namespace K0
open PySem L2 Tx Tg Tm
theorem signs_letters {sg : Str} (h : Signs sg) : letters (.str sg) = true := by
  have go : ∀ z : Str, (decide (z.length ≤ 3) && only z alpha && decide (z ≠ Str.empty)) = true → (cds z).Pairwise (· < ·) → letters (.str z) = true := fun z h1 h2 => by
    show (decide (z.length ≤ 3) && only z alpha && decide (z ≠ Str.empty) && rise z) = true
    rw [h1, Bool.true_and]
    exact decide_eq_true (up_eq h2 (ups_up _) fun c => (ups_mem _ c).symm)
  rcases h with rfl | rfl | rfl | rfl <;> exact go _ (by decide +kernel) (by decide +kernel)
theorem signs_fine {sg : Str} (h : Signs sg) : Fine sg := by
  rcases h with rfl | rfl | rfl | rfl <;> exact Short.fine (n := 3) ⟨by decide +kernel, by decide +kernel⟩ (by decide)
theorem signs_short {sg : Str} (h : Signs sg) : sg.length ≤ 3 := by
  rcases h with rfl | rfl | rfl | rfl <;> decide +kernel
abbrev row7 (a b c d e f g : Bool) : List V := [.bl a, .bl b, .bl c, .bl d, .bl e, .bl f, .bl g]
abbrev dat7 (a b c d e f g : Bool) : PyData := .list [.bool a, .bool b, .bool c, .bool d, .bool e, .bool f, .bool g]
theorem all7 (K : PySem.W.Frag) (H : Hp) (a b c d e f g : Bool) : DpAll K H (row7 a b c d e f g) [.bool a, .bool b, .bool c, .bool d, .bool e, .bool f, .bool g] :=
  .cons (.bl _) (.cons (.bl _) (.cons (.bl _) (.cons (.bl _) (.cons (.bl _) (.cons (.bl _) (.cons (.bl _) .nil))))))
theorem len7 : ∀ a b c d e f g : Bool, (dat7 a b c d e f g).shown.length ≤ sizeLine := by decide +kernel
abbrev nLaw : List Str := ["_law_script", "_law_at", "_law_cup_here", "_law_signs_here", "_law_value", "_law_told"]
section
variable {P : Program} {w : World} {K : PySem.W.Frag} {mg : Str → Option Value} {base : Heap}
def spLaw (K : PySem.W.Frag) : Sp := fun vs H Q _ => ∃ (a : Addr) (ns : List Int), vs = [.ref a] ∧ SqL K H a (ns.map V.int) ∧ ns.length ≤ 63 ∧ ∀ H', Q (.bl true) H'
theorem scLaw : FnScope nLaw ["_law_script"] (defScope sLaw) := ⟨rfl, rfl, rfl, by decide +kernel, rfl, by decide +kernel, by decide +kernel⟩
/-- all defs that the law calls -/
structure All (P : Program) (w : World) (K : PySem.W.Frag) (mg : Str → Option Value) (base : Heap) (C fCup fSg fVal fInt fName fLet fPr fDue fAre fRef fT fS fP : Addr) (dCup dSg dVal dInt dName dLet dPr dDue dAre dRef dT dS dP : FuncData) : Prop where
  J : Judges P w K mg base C fT fS fP dT dS dP
  cup : FnOk P w K mg base CX0 1 fCup dCup ["_law_script", "_law_at"] (spCup K)
  sgn : FnOk P w K mg base CX0 3 fSg dSg ["_law_cup_here"] spSigns
  val : FnOk P w K mg base CX0 3 fVal dVal ["_law_cup_here", "_law_cell", "_law_signs_here"] spValues
  int : FnOk P w K mg base CX0 1 fInt dInt ["value"] spInt
  nam : FnOk P w K mg base CX0 2 fName dName ["value"] spName
  let' : FnOk P w K mg base CX0 2 fLet dLet ["value"] spLetters
  pri : FnOk P w K mg base CX0 2 fPr dPr ["value"] spPrime
  due : Kept P w K mg base CX0 3 fDue dDue ["_law_signs_here", "_law_value"] spDue
  are : FnOk P w K mg base CX0 2 fAre dAre ["_law_value"] spLetters
  ref : FnOk P w K mg base CX0 6 fRef dRef ["_law_value"] spRefused
  dCup : Df K mg "_law_cup" sCup ["_law_script", "_law_at"] fCup dCup
  dSgn : Df K mg "_law_signs" sSigns ["_law_cup_here"] fSg dSg
  dVal : Df K mg "_law_values" sValues ["_law_cup_here", "_law_cell", "_law_signs_here"] fVal dVal
  dInt : Df K mg "is_integer" sInt ["value"] fInt dInt
  dNam : Df K mg "is_name" sName ["value"] fName dName
  dLet : Df K mg "is_letters" sLetters ["value"] fLet dLet
  dPri : Df K mg "is_prime" sPrime ["value"] fPr dPr
  dDue : Df K mg "_law_due" sDue ["_law_signs_here", "_law_value"] fDue dDue
  dAre : Df K mg "_law_are_signs" sAre ["_law_value"] fAre dAre
  dRef : Df K mg "_law_refused" sRefused ["_law_value"] fRef dRef
theorem read_cell {K0 : PySem.W.Frag} {H : Hp} {a : Addr} {ns : List Int} {k : Nat} {σ : L2.St} {R : V → Hp → Prop} (h0 : σ[0]? = some (some (.ref a))) (h1 : σ[1]? = some (some (.int (0 + (k : Int))))) (hS : SqL K0 H a (ns.map V.int)) (h : ∀ cell : Int, R (.int cell) H) :
    tIf (tTest (tOp (rI0 fun i j => V.bl (decide (i < j))) (tVar 1) (tCB (fun xs H Q => ∃ x n, xs = [x] ∧ LenV K0 x H n ∧ Q (V.int (n : Nat)) H) (tCons (tVar 0) tNil)))) (tOp (rIxL K0) (tVar 0) (tVar 1)) (tC (V.int 7)) σ H R := by
  refine ⟨_, h1, _, h0, _, ns.length, rfl, .inl ⟨_, hS, by rw [List.length_map]⟩, _, _, rfl, rfl, _, rfl, ?_⟩
  refine ite2 (fun hc => ?_) (fun _ => h 7)
  have hk : k < ns.length := by
    have := of_decide_eq_true hc
    omega
  refine ⟨_, h0, _, h1, a, _, (k : Int), .int ns[k], rfl, congrArg V.int (Int.zero_add _), hS, atI_nat (by rw [List.getElem?_map, List.getElem?_eq_getElem hk]; rfl), h _⟩
theorem ok_law {f C fCup fSg fVal fInt fName fLet fPr fDue fAre fRef fT fS fP : Addr} {fd dCup dSg dVal dInt dName dLet dPr dDue dAre dRef dT dS dP : FuncData} (F : Fun K "law" "law" sLaw f fd) (T : Txt K mg)
    (G : All P w K mg base C fCup fSg fVal fInt fName fLet fPr fDue fAre fRef fT fS fP dCup dSg dVal dInt dName dLet dPr dDue dAre dRef dT dS dP) : Kept P w K mg base CX0 7 f fd ["_law_script"] (spLaw K) := by
  refine Kept.fn F scLaw (fun vs H Q E h => ?_) (fun cdv A outer s H vs Q E hr still h => ?_)
  · obtain ⟨a, ns, rfl, _⟩ := h
    rfl
  · obtain ⟨a, ns, rfl, hS, hlen, q⟩ := h
    obtain ⟨t1, g1⟩ := T.mName
    obtain ⟨t2, g2⟩ := T.mDig
    obtain ⟨t3, g3⟩ := T.mText
    obtain ⟨t4, g4⟩ := T.mPat
    obtain ⟨t5, g5⟩ := T.mDep
    obtain ⟨pp, g6, hpp⟩ := T.primes
    have r1 : Room 1 _ := hr.mono (by decide)
    have r2 : Room 2 _ := hr.mono (by decide)
    have r3 : Room 3 _ := hr.mono (by decide)
    have r4 : Room 4 _ := hr.mono (by decide)
    refine ⟨_, pss_cons (ps_for PassesOwn.never rfl (pi_range1 rfl T.range (pa_cons (pe_callB (call_max2 rfl) (by rfl) T.max (by decide +kernel) (pa_cons pe_int (pa_cons (pe_callB (call_min2 rfl) (by rfl) T.min (by decide +kernel) (pa_cons pe_int (pa_cons
          (pe_callB call_len (by rfl) T.len PySem.boot_len (pa_cons (pv 0) pa_nil)) pa_nil))) pa_nil))) pa_nil)) (pg_name (i := 1) scLaw.nd rfl (Or.inl rfl))
        (pss_cons (ps_set (i := 2) scLaw.nd rfl (Or.inl rfl) (pe_call G.cup r1 (by rfl) G.dCup.m G.dCup.F.kp G.dCup.b .nil pass0 (pa_cons (pv 0) (pa_cons (pv 1) pa_nil))))
        (pss_cons (ps_set (i := 3) scLaw.nd rfl (Or.inl rfl) (pe_call G.sgn r3 (by rfl) G.dSgn.m G.dSgn.F.kp G.dSgn.b .nil pass0 (pa_cons (pv 2) pa_nil)))
        (pss_one (ps_for PassesOwn.never rfl (pi_list (pe_call G.val r3 (by rfl) G.dVal.m G.dVal.F.kp G.dVal.b .nil pass0 (pa_cons (pv 2) (pa_cons
            (pe_ifExp (pt_cmpR op_lt (pv 1) (pe_callB call_len (by rfl) T.len PySem.boot_len (pa_cons (pv 0) pa_nil)) (nomark _)) (pe_ix ix_list (pv 0) (pv 1) (fun _ _ => rfl)) pe_int) (pa_cons (pv 3) pa_nil)))))
            (pg_name (i := 4) scLaw.nd rfl (Or.inl rfl))
          (pss_cons (ps_set (i := 5) scLaw.nd rfl (Or.inl rfl) (pe_lst (pa_cons (pe_call G.int r1 (by rfl) G.dInt.m G.dInt.F.kp G.dInt.b .nil pass0 (pa_cons (pv 4) pa_nil)) (pa_cons (pe_call G.nam r2 (by rfl) G.dNam.m G.dNam.F.kp G.dNam.b .nil pass0 (pa_cons (pv 4) pa_nil))
            (pa_cons (pe_call G.let' r2 (by rfl) G.dLet.m G.dLet.F.kp G.dLet.b .nil pass0 (pa_cons (pv 4) pa_nil)) (pa_cons (pe_call G.J.T r4 (by rfl) G.J.mT G.J.kT G.J.bT .nil passL (pa_cons (pv 3) (pa_cons (pv 4) pa_nil)))
            (pa_cons (pe_call G.J.S r4 (by rfl) G.J.mS G.J.kS G.J.bS .nil passL (pa_cons (pv 3) (pa_cons (pv 4) pa_nil))) pa_nil)))))))
          (pss_cons (ps_set (i := 5) scLaw.nd rfl (Or.inl rfl) (pe_op op_cat (pv 5) (pe_lst (pa_cons (pe_call G.J.P r4 (by rfl) G.J.mP G.J.kP G.J.bP .nil passL (pa_cons (pv 3) (pa_cons (pv 4) pa_nil)))
            (pa_cons (pe_call G.pri r2 (by rfl) G.dPri.m G.dPri.F.kp G.dPri.b .nil pass0 (pa_cons (pv 4) pa_nil)) pa_nil)))))
          (pss_one (ps_if (PW.pt (pw_or (pt_cmpR op_ne (pe_callB (call_show still hr.units) (by rfl) T.repr (by decide +kernel) (pa_cons (pv 5) pa_nil))
              (pe_callB (call_show still hr.units) (by rfl) T.repr (by decide +kernel) (pa_cons (pe_callG G.due r3 still (by rfl) G.dDue.m G.dDue.F.kp G.dDue.b .nil pass0 (pa_cons (pv 3) (pa_cons (pv 4) pa_nil))) pa_nil)) (nomark _))
              (pw_or1 (PW.pt (pw_and (pt_not (pt_val (pe_call G.are r2 (by rfl) G.dAre.m G.dAre.F.kp G.dAre.b .nil pass0 (pa_cons (pv 4) pa_nil)))) (pw_and1 (pt_not (pt_val (pe_call G.ref hr (by rfl) G.dRef.m G.dRef.F.kp G.dRef.b .nil pass0 (pa_cons (pv 4) pa_nil)))))))))) (pss_one (ps_ret pe_bl)) pss_nil)))))))))
      (pss_one (ps_ret (pe_cmpR (op_eqD hr.units) (pe_lst (pa_cons (pe_glob (v := .int 8) rfl g1 ⟨_, rfl⟩) (pa_cons (pe_glob (v := .int 200) rfl g2 ⟨_, rfl⟩) (pa_cons (pe_glob (v := .int 4000) rfl g3 ⟨_, rfl⟩)
        (pa_cons (pe_glob (v := .int 400) rfl g4 ⟨_, rfl⟩) (pa_cons (pe_glob (v := .int 5) rfl g5 ⟨_, rfl⟩) (pa_cons (pe_glob (v := .ref pp) rfl g6 rfl) pa_nil)))))))
        (pe_lst (pa_cons pe_int (pa_cons pe_int (pa_cons pe_int (pa_cons pe_int (pa_cons pe_int (pa_cons (pe_tup (pa_cons pe_int (pa_cons pe_int (pa_cons pe_int (pa_cons pe_int pa_nil))))) pa_nil))))))) (nomark _)))), ?_⟩
    have bj : ∀ n : Int, 0 ≤ n → n ≤ 63 → (-(2 ^ 62) ≤ (if (if n < 3 then n else 3) > 1 then (if n < 3 then n else 3) else 1) ∧ (if (if n < 3 then n else 3) > 1 then (if n < 3 then n else 3) else 1) < 2 ^ 62) ∧ (if (if n < 3 then n else 3) > 1 then (if n < 3 then n else 3) else (1 : Int)).toNat ≤ 3 := by
      intro n h0 h1
      repeat' split
      all_goals omega
    obtain ⟨⟨bj1, bj2⟩, bj3⟩ := bj ns.length (by omega) (by omega)
    refine ⟨_, rfl, _, ns.length, rfl, .inl ⟨_, hS, by rw [List.length_map]⟩, _, _, rfl, _, _, rfl, _, rfl, bj1, bj2, for_range (n := _) (fun i σ H1 => ∃ u1 u2 u3 u4 u5 : Option V, σ = [some (.ref a), u1, u2, u3, u4, u5] ∧ Same H H1)
      ⟨none, none, none, none, none, rfl, Same.refl H⟩ ?_ ?_⟩
    · rintro k σ H1 hk ⟨u1, u2, u3, u4, u5, rfl, s1⟩
      have hk3 : k < 3 := Nat.lt_of_lt_of_le hk bj3
      refine ⟨_, rfl, _, rfl, a, ns, k, congrArg (fun z => [V.ref a, V.int z]) (Int.zero_add _), s1.seq hS, hlen, by omega, fun c H2 nc s2 hc2 => ?_⟩
      refine ⟨_, rfl, c, rfl, hc2, fun sg H3 hsg hc3 b3 => ?_⟩
      have s13 : Same H1 H3 := fun b o e => b3 _ _ (ne_of_none e nc) (s2 _ _ e)
      refine ⟨_, rfl, read_cell (k := k) (ns := ns) rfl rfl (s13.seq (s1.seq hS)) fun cell => ?_⟩
      refine ⟨_, rfl, c, cell, sg, rfl, hc3, hsg, fun p xs H4 hc4 b4 hp hxl hgood => ?_⟩
      have s14 : Same H1 H4 := fun b o e => b4 _ _ (ne_of_none e nc) (s13 _ _ e)
      refine ⟨p, rfl, ⟨_, SqL.of hp⟩, for_list (K := K) (a := p) (xs := xs) (fun i σ H5 => ∃ u4 u5 : Option V, σ = [some (.ref a), some (.int (0 + (k : Int))), some (.ref c), some (.str sg), u4, u5] ∧ Same H4 H5)
        ⟨u4, u5, rfl, Same.refl H4⟩ (fun i σ H5 _ h5 => by obtain ⟨_, _, _, s5⟩ := h5; exact SqL.of (s5 _ _ hp)) ?_ ?_⟩
      · rintro i x σ H5 hx ⟨u4, u5, rfl, s5⟩
        obtain ⟨d, hv4, hd⟩ := hgood x (List.mem_of_getElem? hx)
        have hv5 := hv4.same s5
        have sl := signs_letters hsg
        have sf : Ok (.str sg) := signs_fine hsg
        refine ⟨_, rfl, x, d, rfl, hv5, _, rfl, x, d, rfl, hv5, hd, _, rfl, x, d, rfl, hv5, hd, fun H6 s6 => ?_⟩
        have hv6 := hv5.same s6
        refine ⟨_, rfl, _, rfl, .str sg, x, .str sg, d, rfl, .str sg, sf, hv6, hd, fun H7 s7 => ?_⟩
        rw [if_pos sl]
        refine ⟨sg, rfl, ?_⟩
        have hv7 := hv6.same s7
        refine ⟨_, rfl, _, rfl, .str sg, x, .str sg, d, rfl, .str sg, sf, hv7, hd, fun H8 s8 => ?_⟩
        rw [if_pos sl]
        refine ⟨sg, rfl, ?_⟩
        have hv8 := hv7.same s8
        refine ⟨by show 5 ≤ sizeLine; decide, fun p1 n1 => ?_⟩
        have k1 := same_upd (o := .lst [.bl (isInt d), .bl (name d), .bl (letters d), .bl (has sg 4000 d), .bl (has (both sg) 4000 d)]) n1
        have hv9 := hv8.same k1
        refine ⟨_, rfl, _, rfl, _, rfl, .str sg, x, .str sg, d, rfl, .str sg, sf, hv9, hd, fun H9 s9 => ?_⟩
        rw [if_pos sl]
        refine ⟨sg, rfl, ?_⟩
        have hv10 := hv9.same s9
        refine ⟨_, rfl, x, d, rfl, hv10, ?_⟩
        refine ⟨by show 2 ≤ sizeLine; decide, fun p2 n2 => ?_⟩
        have k2 := same_upd (o := .lst [.bl (has sg 400 d), .bl (prime d)]) n2
        refine ⟨p1, p2, _, _, rfl, rfl, k2 _ _ (s9 _ _ upd_same), upd_same, by show 7 ≤ sizeLine; decide, fun p3 n3 => ?_⟩
        have k3 := same_upd (o := .lst (row7 (isInt d) (name d) (letters d) (has sg 4000 d) (has (both sg) 4000 d) (has sg 400 d) (prime d))) n3
        have hv11 := (hv10.same k2).same k3
        have s59 := (((((s5.trans s6).trans s7).trans s8).trans k1).trans s9)
        have s5z := (s59.trans k2).trans k3
        have dep : ∀ a b c d e f g : Bool, (dat7 a b c d e f g).depth < 60 := by decide +kernel
        refine ⟨_, rfl, _, dat7 (isInt d) (name d) (letters d) (has sg 4000 d) (has (both sg) 4000 d) (has sg 400 d) (prime d), rfl, .flat (.lst (SqL.of upd_same) (all7 _ _ _ _ _ _ _ _ _)) rfl, rfl, dep _ _ _ _ _ _ _, len7 _ _ _ _ _ _ _, ?_⟩
        refine ⟨_, rfl, _, rfl, sg, x, d, rfl, signs_short hsg, hv11, hd, fun p4 H10 s10 e10 => ?_⟩
        have hv12 := hv11.same s10
        refine ⟨_, dat7 (isInt d) (small 8 d) (letters d) (has sg 4000 d) (has (both sg) 4000 d) (has sg 400 d) (prime d), rfl, .flat (.lst (SqL.of e10) (all7 _ _ _ _ _ _ _ _ _)) rfl, rfl, dep _ _ _ _ _ _ _, len7 _ _ _ _ _ _ _, ?_⟩
        have e8 : name d = small 8 d := name_small d
        rw [e8]
        refine ⟨rfl, _, rfl, ?_⟩
        refine ite2 (fun z => ?_) (fun _ => ?_)
        · rw [decide_eq_true rfl] at z
          cases z
        · refine ⟨_, rfl, x, d, rfl, hv12, hd, fun H11 s11 => ⟨_, rfl, ?_⟩⟩
          have s5y := (s5z.trans s10).trans s11
          cases hl : letters d with
          | true => exact iteF (iteF ⟨_, _, rfl, s5y⟩)
          | false =>
            refine iteT ⟨_, rfl, x, d, rfl, hv12.same s11, hd, hl, fun H12 s12 => ⟨_, rfl, iteF ⟨_, _, rfl, s5y.trans s12⟩⟩⟩
      · rintro σ H5 ⟨u4, u5, rfl, s5⟩
        exact ⟨_, _, _, _, _, rfl, (s1.trans s14).trans s5⟩
    · rintro σ H1 ⟨u1, u2, u3, u4, u5, rfl, s1⟩
      refine ⟨by show 6 ≤ sizeLine; decide, fun p1 n1 => ?_⟩
      refine ⟨by show 4 ≤ sizeLine; decide, fun pt nt => ?_⟩
      refine ⟨by show 6 ≤ sizeLine; decide, fun p2 n2 => ?_⟩
      have k1 := same_upd (o := .tup [.int 2, .int 3, .int 5, .int 7]) nt
      have k2 := same_upd (o := .lst [.int 8, .int 200, .int 4000, .int 400, .int 5, .ref pt]) n2
      have four : ∀ H : Hp, DpAll K H [.int 2, .int 3, .int 5, .int 7] [.int 2, .int 3, .int 5, .int 7] := fun H => .cons (.int _) (.cons (.int _) (.cons (.int _) (.cons (.int _) .nil)))
      refine ⟨.list [.int 8, .int 200, .int 4000, .int 400, .int 5, .tuple [.int 2, .int 3, .int 5, .int 7]], .list [.int 8, .int 200, .int 4000, .int 400, .int 5, .tuple [.int 2, .int 3, .int 5, .int 7]],
        .lst (SqL.of (k2 _ _ (k1 _ _ upd_same))) (.cons (.int _) (.cons (.int _) (.cons (.int _) (.cons (.int _) (.cons (.int _) (.cons (.tup (hpp _) (four _)) .nil)))))),
        .lst (SqL.of upd_same) (.cons (.int _) (.cons (.int _) (.cons (.int _) (.cons (.int _) (.cons (.int _) (.cons (.tup (SqT.of (k2 _ _ upd_same)) (four _)) .nil)))))), by decide +kernel, by decide +kernel, ?_⟩
      have e3 : PyData.eqv (.list [.int 8, .int 200, .int 4000, .int 400, .int 5, .tuple [.int 2, .int 3, .int 5, .int 7]]) (.list [.int 8, .int 200, .int 4000, .int 400, .int 5, .tuple [.int 2, .int 3, .int 5, .int 7]]) = true := by decide +kernel
      rw [e3]
      exact q _
end
end K0
set_option Elab.async false
set_option linter.all false
set_option maxRecDepth 100000
set_option maxHeartbeats 3200000
namespace K0
open PySem L2 Tx Tg Tm
theorem df_mk {K : PySem.W.Frag} {h : Heap} {mg : Str → Option Value} {x : Str} {st : Stmt} {ps : List Str} {f : Addr} {oc kV dc pm cd ct : Value} {od an : Option Addr} {sl : Array (Option Value)} (X : K.In h) (G : h.Ns mainGlobals mg)
    (a : PySem.W.nsIn K mainGlobals x = some (some (.ref f))) (l : K.lookup f = some ⟨oc, od, .func (PySem.W.fnOf x x (defArgs st) (defBody st) (defScope st) .none kV dc pm an cd ct), sl⟩)
    (c : PySem.W.codeIn K cd x = true) (k : PySem.W.keepIn K (.ref f) = true)
    (hb : ∀ (kV doc pm : Value) (an : Option Addr) (cdv ct : Value) (us : List Value), us.length = ps.length → bindArgs (PySem.W.fnOf x x (defArgs st) (defBody st) (defScope st) .none kV doc pm an cdv ct) ⟨us, []⟩ = pure (ps.zip us)) :
    Df K mg x st ps f (PySem.W.fnOf x x (defArgs st) (defBody st) (defScope st) .none kV dc pm an cd ct) :=
  have F := fun_mk (st := st) l c k
  ⟨F, PySem.W.mg_of X G a, F.binds hb⟩
theorem exm_self {K : PySem.W.Frag} {S : Addr} (h1 : PySem.W.subIn K (.ref S) (.type "BaseException") = some true) (h2 : PySem.W.isClsIn K S = true) (h3 : PySem.W.typeIn K (.ref S) = some (.type "type")) (h4 : PySem.W.subIn K (.ref S) (.ref S) = some true) :
    PySem.W.exmOne K (.ref S) (.ref S) = some true := by
  unfold PySem.W.exmOne
  have e1 : (PySem.W.subIn K (.ref S) (.type "BaseException") == some true) = true := by rw [h1]; rfl
  rw [if_pos e1]
  have e2 : ((PySem.W.clsIn K S).isSome && PySem.W.typeIn K (.ref S) == some (.type "type")) = true := by
    have h2' : (PySem.W.clsIn K S).isSome = true := h2
    rw [h2', h3]
    rfl
  show (if ((PySem.W.clsIn K S).isSome && PySem.W.typeIn K (.ref S) == some (.type "type")) = true then PySem.W.subIn K (.ref S) (.ref S) else none) = some true
  rw [if_pos e2]
  exact h4
theorem all_mk {l : PySem.W.OpenLaw} {w : World} {K : PySem.W.Frag} {h : Heap} {mg : Str → Option Value} {fa C pp : Addr} (X : K.In h) (G : h.Ns mainGlobals mg) (hfa : mg "law" = some (.ref fa))
    (hx : ∃ n t, n = 10 ^ 200 ∧ mg "LEAST_TOO_LONG" = some (.int n t))
    {f1 : Addr} {od1 an1 : Option Addr} {sl1 : Array (Option Value)} {oc1 kV1 dc1 pm1 cd1 ct1 : Value}
    (a1 : PySem.W.nsIn K mainGlobals "is_integer" = some (some (.ref f1))) (l1 : K.lookup f1 = some ⟨oc1, od1, .func (PySem.W.fnOf "is_integer" "is_integer" (defArgs sInt) (defBody sInt) (defScope sInt) .none kV1 dc1 pm1 an1 cd1 ct1), sl1⟩) (c1 : PySem.W.codeIn K cd1 "is_integer" = true) (k1 : PySem.W.keepIn K (.ref f1) = true)
    {f2 : Addr} {od2 an2 : Option Addr} {sl2 : Array (Option Value)} {oc2 kV2 dc2 pm2 cd2 ct2 : Value}
    (a2 : PySem.W.nsIn K mainGlobals "is_name" = some (some (.ref f2))) (l2 : K.lookup f2 = some ⟨oc2, od2, .func (PySem.W.fnOf "is_name" "is_name" (defArgs sName) (defBody sName) (defScope sName) .none kV2 dc2 pm2 an2 cd2 ct2), sl2⟩) (c2 : PySem.W.codeIn K cd2 "is_name" = true) (k2 : PySem.W.keepIn K (.ref f2) = true)
    {f3 : Addr} {od3 an3 : Option Addr} {sl3 : Array (Option Value)} {oc3 kV3 dc3 pm3 cd3 ct3 : Value}
    (a3 : PySem.W.nsIn K mainGlobals "is_letters" = some (some (.ref f3))) (l3 : K.lookup f3 = some ⟨oc3, od3, .func (PySem.W.fnOf "is_letters" "is_letters" (defArgs sLetters) (defBody sLetters) (defScope sLetters) .none kV3 dc3 pm3 an3 cd3 ct3), sl3⟩) (c3 : PySem.W.codeIn K cd3 "is_letters" = true) (k3 : PySem.W.keepIn K (.ref f3) = true)
    {f4 : Addr} {od4 an4 : Option Addr} {sl4 : Array (Option Value)} {oc4 kV4 dc4 pm4 cd4 ct4 : Value}
    (a4 : PySem.W.nsIn K mainGlobals "is_text" = some (some (.ref f4))) (l4 : K.lookup f4 = some ⟨oc4, od4, .func (PySem.W.fnOf "is_text" "is_text" (defArgs sText) (defBody sText) (defScope sText) .none kV4 dc4 pm4 an4 cd4 ct4), sl4⟩) (c4 : PySem.W.codeIn K cd4 "is_text" = true) (k4 : PySem.W.keepIn K (.ref f4) = true)
    {f5 : Addr} {od5 an5 : Option Addr} {sl5 : Array (Option Value)} {oc5 kV5 dc5 pm5 cd5 ct5 : Value}
    (a5 : PySem.W.nsIn K mainGlobals "is_signed" = some (some (.ref f5))) (l5 : K.lookup f5 = some ⟨oc5, od5, .func (PySem.W.fnOf "is_signed" "is_signed" (defArgs sSigned) (defBody sSigned) (defScope sSigned) .none kV5 dc5 pm5 an5 cd5 ct5), sl5⟩) (c5 : PySem.W.codeIn K cd5 "is_signed" = true) (k5 : PySem.W.keepIn K (.ref f5) = true)
    {f6 : Addr} {od6 an6 : Option Addr} {sl6 : Array (Option Value)} {oc6 kV6 dc6 pm6 cd6 ct6 : Value}
    (a6 : PySem.W.nsIn K mainGlobals "is_pattern" = some (some (.ref f6))) (l6 : K.lookup f6 = some ⟨oc6, od6, .func (PySem.W.fnOf "is_pattern" "is_pattern" (defArgs sPattern) (defBody sPattern) (defScope sPattern) .none kV6 dc6 pm6 an6 cd6 ct6), sl6⟩) (c6 : PySem.W.codeIn K cd6 "is_pattern" = true) (k6 : PySem.W.keepIn K (.ref f6) = true)
    {f7 : Addr} {od7 an7 : Option Addr} {sl7 : Array (Option Value)} {oc7 kV7 dc7 pm7 cd7 ct7 : Value}
    (a7 : PySem.W.nsIn K mainGlobals "is_prime" = some (some (.ref f7))) (l7 : K.lookup f7 = some ⟨oc7, od7, .func (PySem.W.fnOf "is_prime" "is_prime" (defArgs sPrime) (defBody sPrime) (defScope sPrime) .none kV7 dc7 pm7 an7 cd7 ct7), sl7⟩) (c7 : PySem.W.codeIn K cd7 "is_prime" = true) (k7 : PySem.W.keepIn K (.ref f7) = true)
    {f8 : Addr} {od8 an8 : Option Addr} {sl8 : Array (Option Value)} {oc8 kV8 dc8 pm8 cd8 ct8 : Value}
    (a8 : PySem.W.nsIn K mainGlobals "check_letters" = some (some (.ref f8))) (l8 : K.lookup f8 = some ⟨oc8, od8, .func (PySem.W.fnOf "check_letters" "check_letters" (defArgs sCheck) (defBody sCheck) (defScope sCheck) .none kV8 dc8 pm8 an8 cd8 ct8), sl8⟩) (c8 : PySem.W.codeIn K cd8 "check_letters" = true) (k8 : PySem.W.keepIn K (.ref f8) = true)
    {f9 : Addr} {od9 an9 : Option Addr} {sl9 : Array (Option Value)} {oc9 kV9 dc9 pm9 cd9 ct9 : Value}
    (a9 : PySem.W.nsIn K mainGlobals "has_only" = some (some (.ref f9))) (l9 : K.lookup f9 = some ⟨oc9, od9, .func (PySem.W.fnOf "has_only" "has_only" (defArgs sHas) (defBody sHas) (defScope sHas) .none kV9 dc9 pm9 an9 cd9 ct9), sl9⟩) (c9 : PySem.W.codeIn K cd9 "has_only" = true) (k9 : PySem.W.keepIn K (.ref f9) = true)
    {f10 : Addr} {od10 an10 : Option Addr} {sl10 : Array (Option Value)} {oc10 kV10 dc10 pm10 cd10 ct10 : Value}
    (a10 : PySem.W.nsIn K mainGlobals "_law_cup" = some (some (.ref f10))) (l10 : K.lookup f10 = some ⟨oc10, od10, .func (PySem.W.fnOf "_law_cup" "_law_cup" (defArgs sCup) (defBody sCup) (defScope sCup) .none kV10 dc10 pm10 an10 cd10 ct10), sl10⟩) (c10 : PySem.W.codeIn K cd10 "_law_cup" = true) (k10 : PySem.W.keepIn K (.ref f10) = true)
    {f11 : Addr} {od11 an11 : Option Addr} {sl11 : Array (Option Value)} {oc11 kV11 dc11 pm11 cd11 ct11 : Value}
    (a11 : PySem.W.nsIn K mainGlobals "_law_bit" = some (some (.ref f11))) (l11 : K.lookup f11 = some ⟨oc11, od11, .func (PySem.W.fnOf "_law_bit" "_law_bit" (defArgs sBit) (defBody sBit) (defScope sBit) .none kV11 dc11 pm11 an11 cd11 ct11), sl11⟩) (c11 : PySem.W.codeIn K cd11 "_law_bit" = true) (k11 : PySem.W.keepIn K (.ref f11) = true)
    {f12 : Addr} {od12 an12 : Option Addr} {sl12 : Array (Option Value)} {oc12 kV12 dc12 pm12 cd12 ct12 : Value}
    (a12 : PySem.W.nsIn K mainGlobals "_law_pick" = some (some (.ref f12))) (l12 : K.lookup f12 = some ⟨oc12, od12, .func (PySem.W.fnOf "_law_pick" "_law_pick" (defArgs sPick) (defBody sPick) (defScope sPick) .none kV12 dc12 pm12 an12 cd12 ct12), sl12⟩) (c12 : PySem.W.codeIn K cd12 "_law_pick" = true) (k12 : PySem.W.keepIn K (.ref f12) = true)
    {f13 : Addr} {od13 an13 : Option Addr} {sl13 : Array (Option Value)} {oc13 kV13 dc13 pm13 cd13 ct13 : Value}
    (a13 : PySem.W.nsIn K mainGlobals "_law_signs" = some (some (.ref f13))) (l13 : K.lookup f13 = some ⟨oc13, od13, .func (PySem.W.fnOf "_law_signs" "_law_signs" (defArgs sSigns) (defBody sSigns) (defScope sSigns) .none kV13 dc13 pm13 an13 cd13 ct13), sl13⟩) (c13 : PySem.W.codeIn K cd13 "_law_signs" = true) (k13 : PySem.W.keepIn K (.ref f13) = true)
    {f14 : Addr} {od14 an14 : Option Addr} {sl14 : Array (Option Value)} {oc14 kV14 dc14 pm14 cd14 ct14 : Value}
    (a14 : PySem.W.nsIn K mainGlobals "_law_small" = some (some (.ref f14))) (l14 : K.lookup f14 = some ⟨oc14, od14, .func (PySem.W.fnOf "_law_small" "_law_small" (defArgs sSmall) (defBody sSmall) (defScope sSmall) .none kV14 dc14 pm14 an14 cd14 ct14), sl14⟩) (c14 : PySem.W.codeIn K cd14 "_law_small" = true) (k14 : PySem.W.keepIn K (.ref f14) = true)
    {f15 : Addr} {od15 an15 : Option Addr} {sl15 : Array (Option Value)} {oc15 kV15 dc15 pm15 cd15 ct15 : Value}
    (a15 : PySem.W.nsIn K mainGlobals "_law_are_signs" = some (some (.ref f15))) (l15 : K.lookup f15 = some ⟨oc15, od15, .func (PySem.W.fnOf "_law_are_signs" "_law_are_signs" (defArgs sAre) (defBody sAre) (defScope sAre) .none kV15 dc15 pm15 an15 cd15 ct15), sl15⟩) (c15 : PySem.W.codeIn K cd15 "_law_are_signs" = true) (k15 : PySem.W.keepIn K (.ref f15) = true)
    {f16 : Addr} {od16 an16 : Option Addr} {sl16 : Array (Option Value)} {oc16 kV16 dc16 pm16 cd16 ct16 : Value}
    (a16 : PySem.W.nsIn K mainGlobals "_law_is_made" = some (some (.ref f16))) (l16 : K.lookup f16 = some ⟨oc16, od16, .func (PySem.W.fnOf "_law_is_made" "_law_is_made" (defArgs sMade) (defBody sMade) (defScope sMade) .none kV16 dc16 pm16 an16 cd16 ct16), sl16⟩) (c16 : PySem.W.codeIn K cd16 "_law_is_made" = true) (k16 : PySem.W.keepIn K (.ref f16) = true)
    {f17 : Addr} {od17 an17 : Option Addr} {sl17 : Array (Option Value)} {oc17 kV17 dc17 pm17 cd17 ct17 : Value}
    (a17 : PySem.W.nsIn K mainGlobals "_law_due" = some (some (.ref f17))) (l17 : K.lookup f17 = some ⟨oc17, od17, .func (PySem.W.fnOf "_law_due" "_law_due" (defArgs sDue) (defBody sDue) (defScope sDue) .none kV17 dc17 pm17 an17 cd17 ct17), sl17⟩) (c17 : PySem.W.codeIn K cd17 "_law_due" = true) (k17 : PySem.W.keepIn K (.ref f17) = true)
    {f18 : Addr} {od18 an18 : Option Addr} {sl18 : Array (Option Value)} {oc18 kV18 dc18 pm18 cd18 ct18 : Value}
    (a18 : PySem.W.nsIn K mainGlobals "_law_values" = some (some (.ref f18))) (l18 : K.lookup f18 = some ⟨oc18, od18, .func (PySem.W.fnOf "_law_values" "_law_values" (defArgs sValues) (defBody sValues) (defScope sValues) .none kV18 dc18 pm18 an18 cd18 ct18), sl18⟩) (c18 : PySem.W.codeIn K cd18 "_law_values" = true) (k18 : PySem.W.keepIn K (.ref f18) = true)
    {f19 : Addr} {od19 an19 : Option Addr} {sl19 : Array (Option Value)} {oc19 kV19 dc19 pm19 cd19 ct19 : Value}
    (a19 : PySem.W.nsIn K mainGlobals "_law_judged" = some (some (.ref f19))) (l19 : K.lookup f19 = some ⟨oc19, od19, .func (PySem.W.fnOf "_law_judged" "_law_judged" (defArgs sJudged) (defBody sJudged) (defScope sJudged) .none kV19 dc19 pm19 an19 cd19 ct19), sl19⟩) (c19 : PySem.W.codeIn K cd19 "_law_judged" = true) (k19 : PySem.W.keepIn K (.ref f19) = true)
    {f20 : Addr} {od20 an20 : Option Addr} {sl20 : Array (Option Value)} {oc20 kV20 dc20 pm20 cd20 ct20 : Value}
    (a20 : PySem.W.nsIn K mainGlobals "_law_refused" = some (some (.ref f20))) (l20 : K.lookup f20 = some ⟨oc20, od20, .func (PySem.W.fnOf "_law_refused" "_law_refused" (defArgs sRefused) (defBody sRefused) (defScope sRefused) .none kV20 dc20 pm20 an20 cd20 ct20), sl20⟩) (c20 : PySem.W.codeIn K cd20 "_law_refused" = true) (k20 : PySem.W.keepIn K (.ref f20) = true)
    {f21 : Addr} {od21 an21 : Option Addr} {sl21 : Array (Option Value)} {oc21 kV21 dc21 pm21 cd21 ct21 : Value}
    (a21 : PySem.W.nsIn K mainGlobals "law" = some (some (.ref f21))) (l21 : K.lookup f21 = some ⟨oc21, od21, .func (PySem.W.fnOf "law" "law" (defArgs sLaw) (defBody sLaw) (defScope sLaw) .none kV21 dc21 pm21 an21 cd21 ct21), sl21⟩) (c21 : PySem.W.codeIn K cd21 "law" = true) (k21 : PySem.W.keepIn K (.ref f21) = true)
    (aC : PySem.W.nsIn K mainGlobals "InvalidLetters" = some (some (.ref C))) (xC : PySem.W.excIn K C [.type "ValueError", .type "Exception", .type "BaseException", .type "object"] "ValueError.__new__" = true) (kC : PySem.W.keepIn K (.ref C) = true)
    (bC : PySem.W.subIn K (.ref C) (.type "BaseException") = some true) (tC : PySem.W.typeIn K (.ref C) = some (.type "type")) (iC : PySem.W.isClsIn K C = true) (sC : PySem.W.subIn K (.ref C) (.ref C) = some true)
    (z1 : PySem.W.nsIn K mainGlobals "isinstance" = some none)
    (z2 : PySem.W.nsIn K mainGlobals "int" = some none)
    (z3 : PySem.W.nsIn K mainGlobals "str" = some none)
    (z4 : PySem.W.nsIn K mainGlobals "bool" = some none)
    (z5 : PySem.W.nsIn K mainGlobals "abs" = some none)
    (z6 : PySem.W.nsIn K mainGlobals "len" = some none)
    (z7 : PySem.W.nsIn K mainGlobals "list" = some none)
    (z8 : PySem.W.nsIn K mainGlobals "set" = some none)
    (z9 : PySem.W.nsIn K mainGlobals "sorted" = some none)
    (z10 : PySem.W.nsIn K mainGlobals "repr" = some none)
    (z11 : PySem.W.nsIn K mainGlobals "range" = some none)
    (z12 : PySem.W.nsIn K mainGlobals "max" = some none)
    (z13 : PySem.W.nsIn K mainGlobals "min" = some none)
    {t1 : Tok} (v1 : PySem.W.nsIn K mainGlobals "ALPHABET" = some (some (.str alpha t1)))
    {t2 : Tok} (v2 : PySem.W.nsIn K mainGlobals "MAX_NAME" = some (some (.int 8 t2)))
    {t3 : Tok} (v3 : PySem.W.nsIn K mainGlobals "MAX_LETTERS" = some (some (.int 3 t3)))
    {t4 : Tok} (v4 : PySem.W.nsIn K mainGlobals "MAX_TEXT" = some (some (.int 4000 t4)))
    {t5 : Tok} (v5 : PySem.W.nsIn K mainGlobals "MAX_PATTERN" = some (some (.int 400 t5)))
    {t6 : Tok} (v6 : PySem.W.nsIn K mainGlobals "MAX_DIGITS" = some (some (.int 200 t6)))
    {t7 : Tok} (v7 : PySem.W.nsIn K mainGlobals "MAX_DEPTH" = some (some (.int 5 t7)))
    {u1 u2 u3 u4 : Tok} {dd : Option Addr} {nn : Nat} {ps : Array (Option Value)} (aP : PySem.W.nsIn K mainGlobals "PRIMES" = some (some (.ref pp))) (lP : K.lookup pp = some ⟨.type "tuple", dd, .seq #[.int 2 u1, .int 3 u2, .int 5 u3, .int 7 u4] nn, ps⟩) :
    ∃ fd : FuncData, (∀ (s : Shared) (v : Value), BindsTo s fd ⟨[v], []⟩ [("_law_script", v)]) ∧ ∀ base : Heap, K.In base → base.Ns mainGlobals mg → Kept l.prog w K mg base CX0 7 fa fd ["_law_script"] (spLaw K) := by
  have e := hfa.symm.trans (PySem.W.mg_of X G a21)
  cases e
  obtain ⟨n, t0, en, hx⟩ := hx
  subst en
  have T : Txt K mg := by
    refine ⟨PySem.W.mg_none_of X G z1, PySem.W.mg_none_of X G z2, PySem.W.mg_none_of X G z3, PySem.W.mg_none_of X G z4, PySem.W.mg_none_of X G z5, PySem.W.mg_none_of X G z6, PySem.W.mg_none_of X G z7, PySem.W.mg_none_of X G z8, PySem.W.mg_none_of X G z9, PySem.W.mg_none_of X G z10, PySem.W.mg_none_of X G z11, PySem.W.mg_none_of X G z12, PySem.W.mg_none_of X G z13, ⟨_, hx⟩, ⟨_, PySem.W.mg_of X G v1⟩, ⟨_, PySem.W.mg_of X G v2⟩, ⟨_, PySem.W.mg_of X G v3⟩, ⟨_, PySem.W.mg_of X G v4⟩, ⟨_, PySem.W.mg_of X G v5⟩, ⟨_, PySem.W.mg_of X G v6⟩, ⟨_, PySem.W.mg_of X G v7⟩, ⟨pp, PySem.W.mg_of X G aP, fun H => .inr ⟨_, _, _, lP, rfl, rfl, ?_, ?_⟩⟩⟩
    · show 4 ≤ sizeLine
      decide
    · exact .cons ⟨_, rfl⟩ (.cons ⟨_, rfl⟩ (.cons ⟨_, rfl⟩ (.cons ⟨_, rfl⟩ .nil)))
  have EX : Ex K mg C := ⟨PySem.W.mg_of X G aC, xC, kC, bC, tC, exm_self bC iC tC sC⟩
  have D1 : Df K mg "is_integer" sInt ["value"] f1 _ := df_mk X G a1 l1 c1 k1 fun _ _ _ _ _ _ us hl => match us, hl with | [_], _ => rfl
  have D2 : Df K mg "is_name" sName ["value"] f2 _ := df_mk X G a2 l2 c2 k2 fun _ _ _ _ _ _ us hl => match us, hl with | [_], _ => rfl
  have D3 : Df K mg "is_letters" sLetters ["value"] f3 _ := df_mk X G a3 l3 c3 k3 fun _ _ _ _ _ _ us hl => match us, hl with | [_], _ => rfl
  have D4 : Df K mg "is_text" sText ["letters", "value"] f4 _ := df_mk X G a4 l4 c4 k4 fun _ _ _ _ _ _ us hl => match us, hl with | [_, _], _ => rfl
  have D5 : Df K mg "is_signed" sSigned ["letters", "value"] f5 _ := df_mk X G a5 l5 c5 k5 fun _ _ _ _ _ _ us hl => match us, hl with | [_, _], _ => rfl
  have D6 : Df K mg "is_pattern" sPattern ["letters", "value"] f6 _ := df_mk X G a6 l6 c6 k6 fun _ _ _ _ _ _ us hl => match us, hl with | [_, _], _ => rfl
  have D7 : Df K mg "is_prime" sPrime ["value"] f7 _ := df_mk X G a7 l7 c7 k7 fun _ _ _ _ _ _ us hl => match us, hl with | [_], _ => rfl
  have D8 : Df K mg "check_letters" sCheck ["value"] f8 _ := df_mk X G a8 l8 c8 k8 fun _ _ _ _ _ _ us hl => match us, hl with | [_], _ => rfl
  have D9 : Df K mg "has_only" sHas ["value", "signs", "most"] f9 _ := df_mk X G a9 l9 c9 k9 fun _ _ _ _ _ _ us hl => match us, hl with | [_, _, _], _ => rfl
  have D10 : Df K mg "_law_cup" sCup ["_law_script", "_law_at"] f10 _ := df_mk X G a10 l10 c10 k10 fun _ _ _ _ _ _ us hl => match us, hl with | [_, _], _ => rfl
  have D11 : Df K mg "_law_bit" sBit ["_law_cup_here", "_law_much"] f11 _ := df_mk X G a11 l11 c11 k11 fun _ _ _ _ _ _ us hl => match us, hl with | [_, _], _ => rfl
  have D12 : Df K mg "_law_pick" sPick ["_law_cup_here", "_law_items"] f12 _ := df_mk X G a12 l12 c12 k12 fun _ _ _ _ _ _ us hl => match us, hl with | [_, _], _ => rfl
  have D13 : Df K mg "_law_signs" sSigns ["_law_cup_here"] f13 _ := df_mk X G a13 l13 c13 k13 fun _ _ _ _ _ _ us hl => match us, hl with | [_], _ => rfl
  have D14 : Df K mg "_law_small" sSmall ["_law_value", "_law_most"] f14 _ := df_mk X G a14 l14 c14 k14 fun _ _ _ _ _ _ us hl => match us, hl with | [_, _], _ => rfl
  have D15 : Df K mg "_law_are_signs" sAre ["_law_value"] f15 _ := df_mk X G a15 l15 c15 k15 fun _ _ _ _ _ _ us hl => match us, hl with | [_], _ => rfl
  have D16 : Df K mg "_law_is_made" sMade ["_law_signs_here", "_law_value", "_law_most"] f16 _ := df_mk X G a16 l16 c16 k16 fun _ _ _ _ _ _ us hl => match us, hl with | [_, _, _], _ => rfl
  have D17 : Df K mg "_law_due" sDue ["_law_signs_here", "_law_value"] f17 _ := df_mk X G a17 l17 c17 k17 fun _ _ _ _ _ _ us hl => match us, hl with | [_, _], _ => rfl
  have D18 : Df K mg "_law_values" sValues ["_law_cup_here", "_law_cell", "_law_signs_here"] f18 _ := df_mk X G a18 l18 c18 k18 fun _ _ _ _ _ _ us hl => match us, hl with | [_, _, _], _ => rfl
  have D19 : Df K mg "_law_judged" sJudged ["_law_turn", "_law_value"] f19 _ := df_mk X G a19 l19 c19 k19 fun _ _ _ _ _ _ us hl => match us, hl with | [_, _], _ => rfl
  have D20 : Df K mg "_law_refused" sRefused ["_law_value"] f20 _ := df_mk X G a20 l20 c20 k20 fun _ _ _ _ _ _ us hl => match us, hl with | [_], _ => rfl
  have D21 : Df K mg "law" sLaw ["_law_script"] fa _ := df_mk X G a21 l21 c21 k21 fun _ _ _ _ _ _ us hl => match us, hl with | [_], _ => rfl
  refine ⟨PySem.W.fnOf "law" "law" (defArgs sLaw) (defBody sLaw) (defScope sLaw) .none kV21 dc21 pm21 an21 cd21 ct21, fun s v => .of_eq rfl, fun base _ _ => ?_⟩
  have J : Judges l.prog w K mg base C _ _ _ _ _ _ := ⟨ok_text D4.F T EX D9 D3 D8, ok_signed D5.F T EX D9 D3 D8, ok_pattern D6.F T EX D9 D3 D8,
    D4.m, D5.m, D6.m, D4.F.kp, D5.F.kp, D6.F.kp, D4.b, D5.b, D6.b⟩
  exact ok_law D21.F T ⟨J, ok_cup D10.F T, ok_signs D13.F T D11 D12, ok_values D18.F T D11 D12, ok_int D1.F T, ok_name D2.F T D9, ok_letters D3.F T D9,
    ok_prime D7.F T D1.F D1.m D1.b, ok_due D17.F T D14 D15 D16, ok_are D15.F T D14, ok_refused D20.F T EX J D19,
    D10, D13, D18, D1, D2, D3, D7, D17, D15, D20⟩
theorem fin {l : PySem.W.OpenLaw} {q : Program} {loose : List Str} {XP : (Str → Option Value) → Heap → Prop} {YP : World → Heap → Prop} {d : DefRec} {K : Params → PySem.W.Frag} (hn : l.most = some 63) (hdf : d.params.defaults = [])
    (hY : ∀ (w : World) (h : Heap), YP w h → (K w.params).In h)
    (F : ∀ (w : World) (mg : Str → Option Value) (fa : Addr) (h : Heap), (K w.params).In h → h.Ns mainGlobals mg → mg d.name = some (.ref fa) → XP mg h →
      ∃ fd : FuncData, (∀ (s : Shared) (u : Value), BindsTo s fd ⟨[u], []⟩ [("_law_script", u)]) ∧ ∀ base : Heap, (K w.params).In base → base.Ns mainGlobals mg → Kept l.prog w (K w.params) mg base CX0 7 fa fd ["_law_script"] (spLaw (K w.params))) :
    PySem.W.WalkO q loose XP YP l.row.toRowW d [] (fun f vs => PySem.call f vs) :=
  Tg.walk (n := 63) (k := 7) (x := "_law_script") (cx := fun _ => CX0) (sp := fun w => spLaw (K w.params)) hn (by decide) hdf ⟨rfl, by decide, by decide⟩ hY F (fun _ _ a ns hl _ hS => ⟨a, ns, rfl, hS, hl, fun _ => rfl⟩) fun _ _ _ _ _ z => z
end K0
set_option Elab.async false
set_option maxRecDepth 100000
open PySem PySem.W PyProof.Rows
set_option maxRecDepth 100000 in
set_option maxHeartbeats 0 in
theorem PySem.Challenge.cw_whatcounts_k00_integers_texts_and_primes_holds : PySem.Challenge.rw_whatcounts_k00_integers_texts_and_primes.Holds := by
  w_on; o_law; k_head; (case hw => w_witness2)
  k_fill
  refine K0.fin (l := PySem.Challenge.rw_whatcounts_k00_integers_texts_and_primes) rfl rfl (fun w h Y => PySem.W.kIn_of Y) ?F
  case F =>
    intro w mg fa h KX G hmg hx
    have hx' : ∃ n t, n = 10 ^ 200 ∧ mg "LEAST_TOO_LONG" = some (.int n t) := by
      obtain ⟨v, e, r⟩ := hx.2.val _ (List.mem_singleton.mpr rfl)
      cases r
      exact ⟨_, _, by decide +kernel, e⟩
    refine' K0.all_mk KX G hmg hx' ?a1 ?l1 ?c1 ?k1 ?a2 ?l2 ?c2 ?k2 ?a3 ?l3 ?c3 ?k3 ?a4 ?l4 ?c4 ?k4 ?a5 ?l5 ?c5 ?k5 ?a6 ?l6 ?c6 ?k6 ?a7 ?l7 ?c7 ?k7 ?a8 ?l8 ?c8 ?k8 ?a9 ?l9 ?c9 ?k9 ?a10 ?l10 ?c10 ?k10 ?a11 ?l11 ?c11 ?k11 ?a12 ?l12 ?c12 ?k12 ?a13 ?l13 ?c13 ?k13 ?a14 ?l14 ?c14 ?k14 ?a15 ?l15 ?c15 ?k15 ?a16 ?l16 ?c16 ?k16 ?a17 ?l17 ?c17 ?k17 ?a18 ?l18 ?c18 ?k18 ?a19 ?l19 ?c19 ?k19 ?a20 ?l20 ?c20 ?k20 ?a21 ?l21 ?c21 ?k21 ?aC ?xC ?kC ?bC ?tC ?iC ?sC ?z1 ?z2 ?z3 ?z4 ?z5 ?z6 ?z7 ?z8 ?z9 ?z10 ?z11 ?z12 ?z13 ?v1 ?v2 ?v3 ?v4 ?v5 ?v6 ?v7 ?aP ?lP
    (case a1 => k_is)
    (case l1 => k_is)
    (case c1 => k_is)
    (case k1 => k_is)
    (case a2 => k_is)
    (case l2 => k_is)
    (case c2 => k_is)
    (case k2 => k_is)
    (case a3 => k_is)
    (case l3 => k_is)
    (case c3 => k_is)
    (case k3 => k_is)
    (case a4 => k_is)
    (case l4 => k_is)
    (case c4 => k_is)
    (case k4 => k_is)
    (case a5 => k_is)
    (case l5 => k_is)
    (case c5 => k_is)
    (case k5 => k_is)
    (case a6 => k_is)
    (case l6 => k_is)
    (case c6 => k_is)
    (case k6 => k_is)
    (case a7 => k_is)
    (case l7 => k_is)
    (case c7 => k_is)
    (case k7 => k_is)
    (case a8 => k_is)
    (case l8 => k_is)
    (case c8 => k_is)
    (case k8 => k_is)
    (case a9 => k_is)
    (case l9 => k_is)
    (case c9 => k_is)
    (case k9 => k_is)
    (case a10 => k_is)
    (case l10 => k_is)
    (case c10 => k_is)
    (case k10 => k_is)
    (case a11 => k_is)
    (case l11 => k_is)
    (case c11 => k_is)
    (case k11 => k_is)
    (case a12 => k_is)
    (case l12 => k_is)
    (case c12 => k_is)
    (case k12 => k_is)
    (case a13 => k_is)
    (case l13 => k_is)
    (case c13 => k_is)
    (case k13 => k_is)
    (case a14 => k_is)
    (case l14 => k_is)
    (case c14 => k_is)
    (case k14 => k_is)
    (case a15 => k_is)
    (case l15 => k_is)
    (case c15 => k_is)
    (case k15 => k_is)
    (case a16 => k_is)
    (case l16 => k_is)
    (case c16 => k_is)
    (case k16 => k_is)
    (case a17 => k_is)
    (case l17 => k_is)
    (case c17 => k_is)
    (case k17 => k_is)
    (case a18 => k_is)
    (case l18 => k_is)
    (case c18 => k_is)
    (case k18 => k_is)
    (case a19 => k_is)
    (case l19 => k_is)
    (case c19 => k_is)
    (case k19 => k_is)
    (case a20 => k_is)
    (case l20 => k_is)
    (case c20 => k_is)
    (case k20 => k_is)
    (case a21 => k_is)
    (case l21 => k_is)
    (case c21 => k_is)
    (case k21 => k_is)
    (case aC => k_is)
    (case xC => k_exc)
    (case kC => k_is)
    (case bC => k_is)
    (case tC => k_is)
    (case iC => k_is)
    (case sC => first | rfl | k_is)
    (case z1 => k_is)
    (case z2 => k_is)
    (case z3 => k_is)
    (case z4 => k_is)
    (case z5 => k_is)
    (case z6 => k_is)
    (case z7 => k_is)
    (case z8 => k_is)
    (case z9 => k_is)
    (case z10 => k_is)
    (case z11 => k_is)
    (case z12 => k_is)
    (case z13 => k_is)
    (case v1 => k_is)
    (case v2 => k_is)
    (case v3 => k_is)
    (case v4 => k_is)
    (case v5 => k_is)
    (case v6 => k_is)
    (case v7 => k_is)
    (case aP => k_is)
    (case lP => k_is)
