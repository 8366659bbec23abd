import PyProof.Rows.All
import Wide.All
import OpenK.AllK
import Wide.FinOn
import HandS.ForMost
import HandS.IsInst
import HandS.Wide
import HandS.Strs
import HandS.SetTxt0
import HandS.Set
import HandS.SetTxtIn
import HandS.Exc
import HandS.TryOnly
import HandS.ExcOwn
import HandS.WordsExc
import PyProof.ReprReads
import PyProof.Rows.StrCut
import HandS.StrMore
import KE.KOpsOwn
import PyProof.InstNe
import KE.SortLaws
import HandS.TupAny
import HandS.Style
import KE.KRevSl
import HandS.TupMul
import HandS.Text
import HandS.Iter
import HandS.ClsMeth
import HandS.Property
import PySem.Challenge.RW_whatcounts_k04_whole_words_as_a_group
set_option Elab.async false
set_option linter.all false
set_option maxRecDepth 100000
set_option maxHeartbeats 3200000
/-! sets of texts: made of a text, sorted -/
namespace Tx
open PySem PySem.Spec PyProof.Rows L2

/-- the text that an entry holds -/
def tx (e : Int × Value) : Str := match e.2 with
  | .str y _ => y
  | _ => Str.empty
/-- an entry of a set of texts -/
def Ent (w : World) (e : Int × Value) : Prop := ∃ y u, e.2 = Value.str y u ∧ e.1 = hashStr w y

/-- at a stands a set whose members are the texts ys, in some order -/
def At (w : World) (h : Heap) (a : Addr) (ys : List Str) : Prop :=
  ∃ (o : Obj) (es : Array (Int × Value)) (ep : Nat) (t : SetTable), h.get? a = some o ∧ o.ExactSet ∧ o.data = .set es ep t ∧
    (∀ e ∈ es.toList, Ent w e) ∧ (es.toList.map tx).Perm ys ∧ es.size < scanBound ∧ t.fits es.size = true ∧
    Ris t.place.toList ∧ (w.params.followText "set-order" = true ∨ t.led = true)

section
variable {P : Program} {w : World} {h h' : Heap} {a : Addr} {ys : List Str}
theorem At.stays (R : At w h a ys) (k : ∀ o, h.get? a = some o → h'.get? a = some o) : At w h' a ys :=
  let ⟨o, es, ep, t, ho, r⟩ := R
  ⟨o, es, ep, t, k o ho, r⟩
theorem Ent.elems {l : List (Int × Value)} (g : ∀ e ∈ l, Ent w e) : ElemsOf (strKind P w) l := by
  intro e he
  obtain ⟨y, u, q1, q2⟩ := g e he
  refine ⟨⟨y, ?_, q2⟩, ?_⟩
  · rw [q1]
    exact Froz.is_str y u
  · rw [q1]
    rfl
theorem Ent.is {e : Int × Value} (g : Ent w e) (k : Str) : (strKind P w).is k e.2 = true ↔ tx e = k := by
  obtain ⟨y, u, q1, _⟩ := g
  unfold tx
  rw [q1]
  constructor
  · intro q
    exact ((strKind P w).inj (.str y u) k y q (Froz.is_str y u)).symm
  · intro q
    subst q
    exact Froz.is_str _ u
theorem Ent.mem {l : List (Int × Value)} (g : ∀ e ∈ l, Ent w e) (k : Str) : k ∈ l.map tx ↔ ∃ e ∈ l, (strKind P w).is k e.2 = true := by
  rw [List.mem_map]
  exact ⟨fun ⟨e, he, q⟩ => ⟨e, he, ((g e he).is k).mpr q⟩, fun ⟨e, he, q⟩ => ⟨e, he, ((g e he).is k).mp q⟩⟩
end

section
variable {P : Program} {w : World} {A : Around} {E : Value → Shared → Prop} {s : Shared} {a : Addr} {ys : List Str}
theorem add_tail {g : Bool → Sem Unit} (hg : ∀ (b : Bool) (z : Shared) (R : Unit → Shared → Prop), R () z → wpAny (model P w) A (g b) R E z)
    {o : Obj} {es : Array (Int × Value)} {ep : Nat} {t : SetTable} (ho : s.heap.get? a = some o) (hx : o.ExactSet) (hd : o.data = .set es ep t)
    {es1 : Array (Int × Value)} {t2 : SetTable} (g1 : ∀ e ∈ es1.toList, Ent w e) (m1 : (es1.toList.map tx).Perm ys)
    (hb1 : es1.size < scanBound) (hf2 : t2.fits es1.size = true) (hr : Ris t2.place.toList) (hl : w.params.followText "set-order" = true ∨ t2.led = true)
    {was : Bool} {R : Option Bool → Shared → Prop}
    (hR : ∀ h', Heap.SameBut a s.heap h' → At w h' a ys → R (some true) { s with heap := h' }) :
    wpAny (model P w) A (do
        storeSet a es1 t2
        if (!was && t2.tooFull) = true then do
            g (relayAll t2 es1 (SetTable.grown es1.size)).2.2
            storeSet a (relayAll t2 es1 (SetTable.grown es1.size)).1 (relayAll t2 es1 (SetTable.grown es1.size)).2.1
            pure (some true)
          else pure (some true)) R E s := by
  refine wpAny_bind (wpAny_storeSet_of ho hd ?_ (fits_of_scanBound hb1))
  have q1 := store_at (es' := es1) (t' := t2) ho hd
  have sb := Heap.SameBut.update s.heap a (Obj.putSet es1 t2)
  split
  · have p3 := relayAll_perm t2 es1 (SetTable.grown es1.size)
    have f3 := relayAll_fits t2 es1 (SetTable.grown es1.size)
    have r3 := relayAll_ris t2 es1 (SetTable.grown es1.size)
    have l3 := relayAll_led t2 es1 (SetTable.grown es1.size)
    generalize relayAll t2 es1 (SetTable.grown es1.size) = Z at p3 f3 r3 l3 ⊢
    obtain ⟨es2, t3, gave⟩ := Z
    dsimp only at p3 f3 r3 l3 ⊢
    have z2 : es2.size = es1.size := by
      have := p3.length_eq
      rw [Array.length_toList, Array.length_toList] at this
      exact this
    refine wpAny_bind (hg _ _ _ ?_)
    refine wpAny_bind (wpAny_storeSet_of q1 rfl ?_ (fits_of_scanBound (by rw [z2]; exact hb1)))
    have q2 := store_at (es' := es2) (t' := t3) q1 rfl
    refine wpAny_pure (hR _ (sb.trans (Heap.SameBut.update _ a _)) ?_)
    exact ⟨_, es2, _, t3, q2, hx, rfl, fun e he => g1 e (p3.mem_iff.mp he), (p3.map tx).trans m1, by rw [z2]; exact hb1, f3, r3, hl.imp id fun z => l3.trans z⟩
  · exact wpAny_pure (hR _ sb ⟨_, es1, _, t2, q1, hx, rfl, g1, m1, hb1, hf2, hr, hl⟩)

theorem add_hashed {k : Str} {u : Tok} {Q : Bool → Shared → Prop} (R : At w s.heap a ys) (room : ys.length + 1 < scanBound)
    (hQ : ∀ h', Heap.SameBut a s.heap h' → At w h' a (if k ∈ ys then ys else k :: ys) → Q (!decide (k ∈ ys)) { s with heap := h' }) :
    wpAny (model P w) A (setAddHashed a (.str k u) (hashStr w k)) Q E s := by
  obtain ⟨o, es, ep, t, ho, hx, hd, g, pm, hb, hf, hr, hl⟩ := R
  have hkey : (strKind P w).is k (.str k u) = true := Froz.is_str k u
  have hel : ElemsOf (strKind P w) es.toList := Ent.elems g
  have hz : es.size = ys.length := by
    have := pm.length_eq
    rw [List.length_map, Array.length_toList] at this
    exact this
  unfold setAddHashed setAddHashedIn
  refine wpAny_holding (wpAny_bind (wpAny_setState_of ho hd hf ?_))
  dsimp only
  rw [byScan_of (x := Value.str k u) rfl hb hel]
  simp only [↓reduceIte]
  unfold setAddByScan
  refine wpAny_bind ?_
  refine wpAny_bind (wpAny_rule ?_)
  refine wpAny_bind (wpAny_setScan_of (knd := strKind P w) (k := k) hkey ho hd hf hel ?_)
  cases hfi : List.findIdx? (fun e => (strKind P w).is k e.2) es.toList with
  | some j =>
    dsimp only
    obtain ⟨hj, pj, _⟩ := List.findIdx?_eq_some_iff_getElem.mp hfi
    have hk : k ∈ ys := pm.mem_iff.mp ((Ent.mem (P := P) g k).mpr ⟨es.toList[j], List.getElem_mem hj, pj⟩)
    refine wpAny_pure (wpAny_pure ?_)
    have q := hQ s.heap (Heap.SameBut.refl a s.heap) (by rw [if_pos hk]; exact ⟨o, es, ep, t, ho, hx, hd, g, pm, hb, hf, hr, hl⟩)
    rw [decide_eq_true hk] at q
    exact q
  | none =>
    dsimp only
    have hk : k ∉ ys := fun z => by
      obtain ⟨e, he, q⟩ := (Ent.mem (P := P) g k).mp (pm.mem_iff.mpr z)
      have c := List.findIdx?_eq_none_iff.mp hfi e he
      rw [q] at c
      cases c
    have hgw : ∀ (b : Bool) {z : Shared} {R : Unit → Shared → Prop}, R () z → wpAny (model P w) A (match b with | true => rule "set.scan.the-table-gave-way" | false => pure ()) R E z := by
      intro b z R q
      cases b
      · exact wpAny_pure q
      · exact wpAny_rule q
    have p1 := layNew_perm t es (hashStr w k) (.str k u)
    have f1 := layNew_fits t es (hashStr w k) (.str k u)
    have r1 := layNew_ris t es (hashStr w k) (.str k u) hr
    have l1 := layNew_led t es (hashStr w k) (.str k u)
    generalize layNew t es (hashStr w k) (.str k u) = Z at p1 f1 r1 l1 ⊢
    obtain ⟨es1, t1, was, gave⟩ := Z
    dsimp only at p1 f1 r1 l1 ⊢
    rw [Array.toList_push] at p1
    have pc : es1.toList.Perm ((hashStr w k, Value.str k u) :: es.toList) := p1.trans (List.perm_append_singleton _ _)
    have pk : (es1.toList.map tx).Perm (k :: ys) := (pc.map tx).trans (List.Perm.cons k pm)
    have g1 : ∀ e ∈ es1.toList, Ent w e := by
      intro e he
      cases List.mem_cons.mp (pc.mem_iff.mp he) with
      | inl z => exact ⟨k, u, by rw [z], by rw [z]⟩
      | inr z => exact g e z
    have hb1 : es1.size < scanBound := by
      have e1 : es1.size = ys.length + 1 := by
        have := pk.length_eq
        rw [List.length_map, Array.length_toList] at this
        exact this
      rw [e1]
      exact room
    have hld : w.params.followText "set-order" = true ∨ t1.led = true := hl.imp id fun z => l1.trans z
    have fin : ∀ h', Heap.SameBut a s.heap h' → At w h' a (k :: ys) → Q true { s with heap := h' } := by
      intro h' sb r
      have q := hQ h' sb (by rw [if_neg hk]; exact r)
      rw [decide_eq_false hk] at q
      exact q
    refine wpAny_bind (hgw _ ?_)
    split
    · refine wpAny_bind ?_
      rw [hashByValue_scannable 8 (x := Value.str k u) rfl]
      refine wpAny_pure ?_
      refine add_tail (ys := k :: ys) ?_ ho hx hd g1 pk hb1 ?_ ?_ ?_ ?_
      · intro b z R q
        cases b
        · exact wpAny_pure q
        · exact wpAny_rule q
      · first | (split <;> first | exact f1 | exact SetTable.fits_plain_off f1) | exact f1
      · first | (split <;> exact r1) | exact r1
      · first | (split <;> exact hld) | exact hld
      · intro h' sb r
        dsimp only
        exact wpAny_pure (fin h' sb r)
    · refine wpAny_bind (wpAny_pure ?_)
      simp only [↓reduceIte]
      refine add_tail (ys := k :: ys) ?_ ho hx hd g1 pk hb1 f1 r1 hld ?_
      · intro b z R q
        cases b
        · exact wpAny_pure q
        · exact wpAny_rule q
      · intro h' sb r
        dsimp only
        exact wpAny_pure (fin h' sb r)
end

/-! ### the signs of a text, each once -/
abbrev one (c : Nat) : Str := ⟨#[c]⟩
theorem one_inj {c d : Nat} (h : one c = one d) : c = d := by
  have q : [c] = [d] := congrArg (fun y : Str => y.cps.toList) h
  exact (List.cons.inj q).1
/-- the members behind the first signs -/
def met : List Nat → List Nat → List Nat
  | acc, [] => acc
  | acc, c :: r => met (if c ∈ acc then acc else c :: acc) r
theorem met_len (l : List Nat) : ∀ acc : List Nat, (met acc l).length ≤ acc.length + l.length := by
  induction l with
  | nil => intro acc; exact Nat.le_refl _
  | cons c r ih =>
    intro acc
    have h := ih (if c ∈ acc then acc else c :: acc)
    show (met (if c ∈ acc then acc else c :: acc) r).length ≤ acc.length + (r.length + 1)
    split at h <;> rename_i hc
    · rw [if_pos hc]; omega
    · rw [if_neg hc]
      rw [List.length_cons] at h
      omega
theorem met_mem (l : List Nat) : ∀ (acc : List Nat) (c : Nat), c ∈ met acc l ↔ c ∈ acc ∨ c ∈ l := by
  induction l with
  | nil => intro acc c; simp [met]
  | cons d r ih =>
    intro acc c
    show c ∈ met (if d ∈ acc then acc else d :: acc) r ↔ _
    rw [ih]
    by_cases hd : d ∈ acc
    · rw [if_pos hd, List.mem_cons]
      constructor
      · rintro (q | q)
        · exact .inl q
        · exact .inr (.inr q)
      · rintro (q | q | q)
        · exact .inl q
        · exact .inl (q ▸ hd)
        · exact .inr q
    · rw [if_neg hd, List.mem_cons, List.mem_cons]
      constructor
      · rintro ((q | q) | q)
        · exact .inr (.inl q)
        · exact .inl q
        · exact .inr (.inr q)
      · rintro (q | q | q)
        · exact .inl (.inr q)
        · exact .inl (.inl q)
        · exact .inr q
theorem met_nodup (l : List Nat) : ∀ acc : List Nat, acc.Nodup → (met acc l).Nodup := by
  induction l with
  | nil => intro acc h; exact h
  | cons d r ih =>
    intro acc h
    refine ih _ ?_
    by_cases hd : d ∈ acc
    · rw [if_pos hd]; exact h
    · rw [if_neg hd]; exact List.nodup_cons.mpr ⟨hd, h⟩
theorem met_mono (l : List Nat) : ∀ (acc : List Nat), acc.length ≤ (met acc l).length := by
  induction l with
  | nil => intro acc; exact Nat.le_refl _
  | cons d r ih =>
    intro acc
    refine Nat.le_trans ?_ (ih _)
    by_cases hd : d ∈ acc
    · rw [if_pos hd]; exact Nat.le_refl _
    · rw [if_neg hd]; exact Nat.le_succ _
theorem mem_one {c : Nat} {l : List Nat} : one c ∈ l.map one ↔ c ∈ l := by
  rw [List.mem_map]
  exact ⟨fun ⟨d, hd, q⟩ => one_inj q ▸ hd, fun q => ⟨c, q, rfl⟩⟩

section
variable {P : Program} {w : World} {A : Around} {R : Result → Shared → Prop} {I : Addr} {fp wr : List Addr} {St : Nat → Heap → Prop} {x : Str}
/-- the making: sign by sign into the set at S -/
theorem loop (W : Walks P w A.in1 I fp wr x.cps.size (SignAt x) St) (S : Addr) (hS : S ∉ fp) (hfew : (met [] x.cps.toList).length + 1 < scanBound) :
    ∀ (r : List Nat) (i : Nat) (acc : List Nat) (s : Shared), x.cps.toList.drop i = r → i ≤ x.cps.size → met acc r = met [] x.cps.toList → St i s.heap → At w s.heap S (acc.map one) →
      (∀ h' tk, (∀ b o, b ≠ S → b ∉ wr → s.heap.get? b = some o → h'.get? b = some o) → At w h' S ((met [] x.cps.toList).map one) → R (.ok (.ret .none)) { s with heap := h', toks := tk }) →
      codeAny (model P w) A (.builtin "set.update.loop" ⟨[.ref S, .ref I], []⟩) R s := by
  have hSw : S ∉ wr := fun z => hS (W.sub _ z)
  intro r
  induction r with
  | nil =>
    intro i acc s hr hi hm hst hat hR
    have hin : i = x.cps.size := by
      have := List.drop_eq_nil_iff.mp hr
      rw [Array.length_toList] at this
      omega
    subst hin
    refine codeAny_builtin PyProof.Rows.F.entry_set_update_loop ?_
    rw [Around.under_plainId PyProof.Rows.F.plain_set_update_loop _]
    show wpAny _ A.in1 (pyNext (.ref I) >>= _) _ _ s
    refine wpAny_bind (W.done s _ _ hst fun h' tk k => ?_)
    show wpAny _ A.in1 (ret Value.none) _ _ _
    refine wpAny_pure (hR h' tk (fun b o _ hb e => k b o hb e) ?_)
    have e : acc = met [] x.cps.toList := hm
    rw [← e]
    exact hat.stays fun o e => k S o hSw e
  | cons c r ih =>
    intro i acc s hr hi hm hst hat hR
    obtain ⟨hx, hr2⟩ := Froz.at_of hr
    have hlt : i < x.cps.size := by
      rcases Nat.lt_or_ge i x.cps.size with z | z
      · exact z
      · rw [Array.getElem?_eq_none z] at hx
        cases hx
    refine codeAny_builtin PyProof.Rows.F.entry_set_update_loop ?_
    rw [Around.under_plainId PyProof.Rows.F.plain_set_update_loop _]
    show wpAny _ A.in1 (pyNext (.ref I) >>= _) _ _ s
    refine wpAny_bind (W.item i s _ _ hlt hst fun v h1 tk1 hv hst1 k1 => ?_)
    obtain ⟨d, u, hd, rfl⟩ := hv
    have ed : d = c := Option.some.inj (hd.symm.trans hx)
    subst ed
    have hat1 : At w h1 S (acc.map one) := hat.stays fun o e => k1 S o hSw e
    show wpAny _ A.in1 (holding [Value.str (one d) u] (setAdd S (.str (one d) u)) >>= _) _ _ _
    refine wpAny_bind (wpAny_holding ?_)
    unfold setAdd
    refine wpAny_holding ?_
    refine wpAny_bind ((strKind P w).pyHash (k := one d) (Froz.is_str _ _) ?_)
    have hlen : (acc.map one).length + 1 < scanBound := by
      rw [List.length_map]
      have := met_mono (d :: r) acc
      rw [hm] at this
      omega
    refine add_hashed (ys := acc.map one) (s := { s with heap := h1, toks := tk1 + 1 }) hat1 hlen fun h2 sb hat2 => ?_
    have e2 : (if one d ∈ acc.map one then acc.map one else one d :: acc.map one) = (if d ∈ acc then acc else d :: acc).map one := by
      by_cases z : d ∈ acc
      · rw [if_pos z, if_pos (mem_one.mpr z)]
      · rw [if_neg z, if_neg (fun q => z (mem_one.mp q))]
        rfl
    rw [e2] at hat2
    have k2 : ∀ b o, b ≠ S → h1.get? b = some o → h2.get? b = some o := fun b o hb e => (sb.2 b hb).trans e
    refine wpAny_pure ⟨plainId_quiet PyProof.Rows.F.plain_set_update_loop _, ih (i + 1) _ _ hr2 hlt hm (W.frame _ _ _ hst1 fun b hb o e => k2 b o (fun z => hS (z ▸ hb)) e) hat2 fun h3 tk3 k3 hat3 => ?_⟩
    exact hR h3 tk3 (fun b o hb hw e => k3 b o hb hw (k2 b o hb (k1 b o hw e))) hat3
end
end Tx

set_option Elab.async false
set_option linter.all false
set_option maxRecDepth 100000
set_option maxHeartbeats 3200000
/-! sets of texts: set(a text), sorted(it), as calls -/
namespace Tx
open PySem PySem.Spec PyProof.Rows L2

section
variable {P : Program} {w : World} {A : Around} {E : Value → Shared → Prop} {s : Shared}
theorem fresh_at (w : World) (h : Heap) (led : Bool) (hl : w.params.followText "set-order" = true ∨ led = true) :
    At w (h.push { cls := .type "set", dict := none, data := .set #[] 0 (.fresh 0 0 led) }) h.objs.size ([] : List Str) :=
  ⟨_, #[], 0, .fresh 0 0 led, Heap.get?_push_size _ rfl, ⟨rfl, rfl, rfl⟩, rfl, (fun e he => by simp at he), by simp, by decide, by rfl, List.Pairwise.nil, hl⟩

/-- a new set, as set.__new__ lays it -/
theorem new_set (v : Value) {R : Value → Shared → Prop}
    (h : R (.ref s.heap.objs.size) { s with heap := s.heap.push { cls := .type "set", dict := none, data := .set #[] 0 (.fresh 0 0 (!w.params.followText "set-order")) } }) :
    codeAny (model P w) A (.call (.builtin "set.__new__") ⟨[.type "set", v], []⟩) (wants R E) s := by
  refine codeAny_of_tree ?_
  show wpAny _ A.in1 (do
    checkBuiltinCall "set.__new__" ⟨[.type "set", v], []⟩
    again (.builtin "set.__new__" ⟨[.type "set", v], []⟩)) _ _ s
  refine wpAny_bind (wpAny_of_eq (F.newCall_set_1 v) (wpAny_pure ⟨plainId_quiet F.plain_set_new _, codeAny_builtin F.entry_set_new ?_⟩))
  rw [Around.under_plainId F.plain_set_new _]
  unfold Builtin.«set.__new__»
  unfold Builtin.Frozenset.newClass
  have hsub := sub_set_self
  obtain ⟨hp, g, d, tk, os⟩ := s
  dsimp only
  wp_walk
  refine wpAny_askSetting (wpAny_pure ?_)
  dsimp only
  simp only [newObj]
  exact wpAny_bind (wpAny_alloc (wpAny_pure (wpAny_pure h)))

theorem call_set_text {x : Str} {t : Tok} {Q : Value → Shared → Prop} (hh : A.handled = none) (hfew : (met [] x.cps.toList).length + 1 < scanBound)
    (h : ∀ (h' : Heap) (tk : Nat), At w h' s.heap.objs.size ((met [] x.cps.toList).map one) → (∀ b o, s.heap.get? b = some o → h'.get? b = some o) → Q (.ref s.heap.objs.size) { s with heap := h', toks := tk }) :
    wpAny (model P w) A (call (.type "set") [.str x t]) Q E s := by
  obtain ⟨c, tl, hmro⟩ := PySem.F.called_set.mro
  have hmade := PySem.F.called_set.made
  have hsub := PySem.F.called_set.sub
  refine wpAny_call (codeAny_of_tree ?_)
  show wpAny _ _ (callAny (.type "set") _) _ _ _
  refine wpAny_pure ⟨Code.quiet_builtin _ (by decide +kernel), codeAny_builtin PySem.F.entry_type_call ?_⟩
  rw [Around.under_plain (weight_type_call_type "set" [.str x t] []) rfl]
  have h1 := PySem.F.called_set.notType
  have h2 := PySem.F.called_set.canCreate
  have hct := PySem.F.typeCall_set_1 (.str x t)
  repeat (any_goals (first | assumption | wp_step))
  refine codeAny_mono (new_set (P := P) (w := w) (E := E) (.str x t) (R := fun obj z => ∃ led : Bool, (w.params.followText "set-order" = true ∨ led = true) ∧ obj = .ref s.heap.objs.size ∧ z = { s with heap := s.heap.push { cls := .type "set", dict := none, data := .set #[] 0 (.fresh 0 0 led) } }) ⟨_, ?_, rfl, rfl⟩) fun r z hr => ?_
  · cases w.params.followText "set-order"
    · exact .inr rfl
    · exact .inl rfl
  cases r with
  | error e => exact hr
  | ok fl =>
    cases fl with
    | ret obj =>
      obtain ⟨led, hled, rfl, rfl⟩ := hr
      have hS : (s.heap.push { cls := .type "set", dict := none, data := .set #[] 0 (.fresh 0 0 led) }).get? s.heap.objs.size = some { cls := .type "set", dict := none, data := .set #[] 0 (.fresh 0 0 led) } := Heap.get?_push_size _ rfl
      have hT : Shared.TypeIs { s with heap := s.heap.push { cls := .type "set", dict := none, data := .set #[] 0 (.fresh 0 0 led) } } (.ref s.heap.objs.size) "set" := ⟨_, hS, rfl⟩
      have hli := PySem.F.called_set.init.lookup
      have hbi := PySem.F.called_set.init.bind (.ref s.heap.objs.size)
      repeat (any_goals (first | assumption | wp_step))
      refine codeAny_mono (codeAny_call_builtin (R := wants (fun r z => r = .none ∧ ∃ h' tk, z = { s with heap := h', toks := tk } ∧ At w h' s.heap.objs.size ((met [] x.cps.toList).map one) ∧
          (∀ b o, s.heap.get? b = some o → h'.get? b = some o)) E) PySem.F.called_set.init.plain PySem.F.entry_set_init (check_set_init_1 hT ?_)) fun r₂ s₂ hr₂ => ?_
      · unfold Builtin.«set.__init__» noKeywords Builtin.Frozenset.updateFrom
        generalize hPI : pyIter = PI
        generalize hAS : Builtin.Frozenset.isAnySet = AS
        wp_walk
        subst hPI
        subst hAS
        refine L2.Fz.anySet ?_
        simp only [Bool.false_eq_true, ↓reduceIte]
        refine wpAny_bind (wpAny_typeOf (typeIs_str _ _ _) ?_)
        have hsd : (Value.type "str" == Value.type "dict") = false := by decide
        simp only [hsd, Bool.false_eq_true, ↓reduceIte]
        refine wpAny_bind (wpAny_pyIter_str fun o St W hst => ?_)
        refine wpAny_bind (wpAny_runValue ?_)
        have hne : s.heap.objs.size ∉ [(s.heap.push { cls := .type "set", dict := none, data := .set #[] 0 (.fresh 0 0 led) }).objs.size] := by
          rw [Heap.size_push, List.mem_singleton]
          exact Nat.ne_of_lt (Nat.lt_succ_self _)
        refine loop (W _ (by simp [hh])) s.heap.objs.size hne hfew _ 0 [] _ (by rfl) (Nat.zero_le _) rfl hst ?_ ?_
        · exact (fresh_at w s.heap led hled).stays fun o e => Heap.get?_push_of_some _ e
        · intro h' tk k hat
          refine wpAny_pure ?_
          show wpAny _ _ (ret Value.none) _ _ _
          refine wpAny_pure ⟨rfl, h', tk, rfl, hat, fun b o e => ?_⟩
          have hb := Heap.lt_size e
          refine k b o (Nat.ne_of_lt hb) ?_ (Heap.get?_push_of_some _ (Heap.get?_push_of_some _ e))
          rw [Heap.size_push, List.mem_singleton]
          exact Nat.ne_of_lt (Nat.lt_succ_of_lt hb)
      · cases r₂ with
        | error e => exact hr₂
        | ok fl₂ =>
          cases fl₂ with
          | ret r =>
            obtain ⟨rfl, h', tk, rfl, hS', hk'⟩ := hr₂
            repeat (any_goals (first | assumption | wp_step))
            exact h _ _ hS' hk'
          | _ => exact hr₂.elim
    | _ => exact hr.elim

/-! ### sorted(a set of one-sign texts) -/
theorem vals_strs {vs : List Value} : ∀ {es : List (Int × Value)}, (∀ e ∈ es, Ent w e) → vs.Perm (es.map (·.2)) → StrsAre vs (vs.map strOf) ∧ (vs.map strOf).Perm (es.map tx) := by
  intro es g p
  refine ⟨strsAre_map vs fun v hv => ?_, ?_⟩
  · obtain ⟨e, he, q⟩ := List.mem_map.mp (p.mem_iff.mp hv)
    obtain ⟨y, u, q1, _⟩ := g e he
    exact ⟨y, u, by rw [← q]; exact q1⟩
  · have q := p.map strOf
    rw [List.map_map] at q
    have e : es.map (strOf ∘ (·.2)) = es.map tx := List.map_congr_left fun e he => by
      obtain ⟨y, u, q1, _⟩ := g e he
      show strOf e.2 = tx e
      unfold tx
      rw [q1]
      rfl
    rw [e] at q
    exact q
theorem pairwise_of_sortedS : ∀ (l : List Str), sortedS l = true → l.Pairwise (fun a b => ltCps b.cps.toList a.cps.toList = false) := by
  have trans : ∀ a b c : List Nat, ltCps b a = false → ltCps c b = false → ltCps c a = false := by
    intro a b c h1 h2
    rw [ltCps_eq] at h1 h2 ⊢
    have h1' := of_decide_eq_false h1
    have h2' := of_decide_eq_false h2
    refine decide_eq_false fun z => ?_
    have n1 : a ≤ b := List.not_lt.mp h1'
    have n2 : b ≤ c := List.not_lt.mp h2'
    exact absurd z (List.not_lt.mpr (List.le_trans n1 n2))
  have all : ∀ (l : List Str) (p : Str), risingS p l = true → (p :: l).Pairwise (fun a b => ltCps b.cps.toList a.cps.toList = false) := by
    intro l
    induction l with
    | nil => intro p _; exact List.pairwise_singleton _ _
    | cons x r ih =>
      intro p h
      have h' : (!ltCps x.cps.toList p.cps.toList && risingS x r) = true := h
      rw [Bool.and_eq_true, Bool.not_eq_true'] at h'
      have q := ih x h'.2
      refine List.pairwise_cons.mpr ⟨fun y hy => ?_, q⟩
      rcases List.mem_cons.mp hy with z | z
      · rw [z]; exact h'.1
      · exact trans _ _ _ h'.1 ((List.pairwise_cons.mp q).1 y z)
  intro l h
  cases l with
  | nil => exact List.Pairwise.nil
  | cons x r => exact all r x h
theorem lt_one {c d : Nat} (h : ltCps (one d).cps.toList (one c).cps.toList = false) : c ≤ d := by
  rw [ltCps_eq] at h
  have q := of_decide_eq_false h
  rcases Nat.lt_or_ge d c with z | z
  · exact absurd (show [d] < [c] from List.cons_lt_cons_iff.mpr (.inl z)) q
  · exact z
/-- sorted one-sign texts, each once, are a rising row of signs -/
theorem rising {ss : List Str} {acc : List Nat} (p : ss.Perm (acc.map one)) (hs : sortedS ss = true) (hn : acc.Nodup) : ∃ ns : List Nat, ss = ns.map one ∧ ns.Perm acc ∧ ns.Pairwise (· < ·) := by
  have back : ∀ l : List Nat, (l.map one).map (fun y => y.cps.toList.headD 0) = l := by
    intro l
    rw [List.map_map]
    exact (List.map_congr_left fun c _ => rfl).trans (List.map_id l)
  have e : ss = (ss.map (fun y => y.cps.toList.headD 0)).map one := by
    rw [List.map_map]
    refine ((List.map_congr_left fun y hy => ?_).trans (List.map_id ss)).symm
    obtain ⟨c, _, q⟩ := List.mem_map.mp (p.mem_iff.mp hy)
    subst q
    rfl
  have pm : (ss.map (fun y => y.cps.toList.headD 0)).Perm acc := by
    have q := p.map (fun y => y.cps.toList.headD 0)
    rw [back] at q
    exact q
  refine ⟨_, e, pm, ?_⟩
  generalize ss.map (fun y => y.cps.toList.headD 0) = ns at e pm ⊢
  subst e
  have h1 := List.pairwise_map.mp (pairwise_of_sortedS _ hs)
  have h2 : ns.Nodup := pm.nodup_iff.mpr hn
  have h3 : ns.Pairwise (· ≠ ·) := h2
  refine List.Pairwise.imp₂ (fun x y a b => ?_) h1 h3
  have c := lt_one a
  omega

theorem sorted_text {a : Addr} {acc : List Nat} {Q : Value → Shared → Prop} (R : At w s.heap a (acc.map one)) (hn : acc.Nodup) (hh : A.handled = none) (h64 : acc.length < 64)
    (hQ : ∀ z p (out : Array Value) (c : Nat) (ns : List Nat), (∀ b o, s.heap.get? b = some o → z.heap.get? b = some o) → z.gens = s.gens → z.os = s.os → s.heap.objs.size ≤ p →
      z.heap.get? p = some (seqObj "list" out c) → StrsAre out.toList (ns.map one) → ns.Pairwise (· < ·) → ns.Perm acc → Q (.ref p) z) :
    wpAny (model P w) A (call (.builtin "sorted") [.ref a]) Q E s := by
  obtain ⟨o, es, ep, t, ho, hx, hd, g, pm, hb, hf, hr, hl⟩ := R
  refine Calls.call_function_entry kind_sorted plain_sorted entry_sorted (args_sorted1 _) ?_
  unfold Builtin.«sorted»
  refine wpAny_bind (m := checkCount "sorted" 1 1 _) (wpAny_pure ?_)
  refine wpAny_bind (collect_set (A := A.in1) hh ⟨o, ho, hx.1, hd⟩ hf hb hr hl fun s1 vs k1 hz g1 o1 pv => ?_)
  obtain ⟨hS, ps⟩ := vals_strs (w := w) g pv
  have ps2 := ps.trans pm
  have hvl : vs.length < 64 := by
    have q := ps2.length_eq
    rw [List.length_map, List.length_map] at q
    rw [q]; exact h64
  refine wpAny_bind (wpAny_newList ?_ (by rw [sizeLine_eq]; omega))
  have hoL : (s1.heap.push (seqObj "list" vs.toArray 0)).get? s1.heap.objs.size = some (seqObj "list" vs.toArray 0) := Heap.get?_push_size _ rfl
  refine wpAny_bind (wpAny_holding (wpAny_call_entry slot_list_sort ⟨_, hoL, rfl⟩ entry_list_sort
    (list_sort_treeK strKind_oneLt hoL hS.keysOf (fun v₁ v₂ rest e => keyKind_strs (by rw [← e]; exact hS)) hvl fun st' hp hs => ⟨_, rfl, ?_⟩) (args_list_sort _)))
  obtain ⟨ss, b1, b2, b3⟩ := sorted_out_str hS hp hs
  obtain ⟨ns, e, pn, ris⟩ := rising (b2.trans ps2) b3 hn
  subst e
  obtain ⟨c, hc⟩ := sortedHeap_at (vs := vs) (out := (arrOf st').map (·.2)) hoL
  refine wpAny_pure ⟨_, rfl, hQ _ s1.heap.objs.size _ c ns (fun b u e => ?_) g1 o1 hz hc b1 ris pn⟩
  have q := k1 b u e
  have hlt := Heap.lt_size q
  show (sortedHeap (s1.heap.push (seqObj "list" vs.toArray 0)) s1.heap.objs.size vs _).get? b = some u
  rw [sortedHeap_old (Nat.ne_of_lt hlt) (by rw [size_push']; exact Nat.lt_succ_of_lt hlt)]
  exact Heap.get?_push_of_some _ q
end
end Tx

set_option Elab.async false
set_option linter.all false
set_option maxRecDepth 100000
set_option maxHeartbeats 3200000
/-! defs that show data by repr: what is known of a call's guards goes along -/
namespace Tg
open PySem PySem.Spec PyProof.Rows L2

/-- nothing is being shown where the call stands -/
abbrev Still (A : Around) : Prop := A.guards = some []

/-- a def's promise, kept where nothing is being shown -/
structure Kept (P : Program) (w : World) (K : PySem.W.Frag) (mg : Str → Option Value) (base : Heap) (cx : CXT) (k : Nat) (f : Addr) (fd : FuncData) (ps : List Str) (sp : Sp) : Prop where
  long : ∀ xs H Q E, sp xs H Q E → xs.length = ps.length
  goes : ∀ (A : Around) (out : List Env) (s : Shared) (H : Hp) (args : Args) (us : List Value) (xs : List V) (Q : VK) (E : XK), Room k A → Still A → Env0 P w K mg base A out s H →
    BindsTo s fd args (ps.zip us) → Vals xs us → sp xs H Q E → codeAny (model P w) A (.call (.ref f) args) (CR cx out P w H s Q E) s

section
variable {P : Program} {w : World} {K : PySem.W.Frag} {mg : Str → Option Value} {base : Heap}
theorem Kept.ok {cx : CXT} {k : Nat} {f : Addr} {name qual : Str} {params : Arguments} {body : List Stmt} {scope : Scope} {dV kV doc pm cdv ct oc : Value} {an od : Option Addr}
    {osl : Array (Option Value)} {N ps : List Str} {sp : Sp}
    (look : K.lookup f = some ⟨oc, od, .func (PySem.W.fnOf name qual params body scope dV kV doc pm an cdv ct), osl⟩)
    (code : PySem.W.codeIn K cdv qual = true) (S : FnScope N ps scope) (long : ∀ xs H Q E, sp xs H Q E → xs.length = ps.length)
    (inner : ∀ (A : Around) (out : List Env) (s : Shared) (H : Hp) (xs : List V) (Q : VK) (E : XK), Room k (A.deeper (envOfC qual scope s.heap.objs.size f cdv)) →
      Still (A.deeper (envOfC qual scope s.heap.objs.size f cdv)) → sp xs H Q E →
      ∃ t, PSs (cxOf cx P w K mg base N qual scope f cdv A out s H E) body t ∧ t { nx := fun _ H2 => Q .non H2, rt := Q } (start N xs) H) :
    Kept P w K mg base cx (k + 1) f (PySem.W.fnOf name qual params body scope dV kV doc pm an cdv ct) ps sp where
  long := long
  goes := by
    intro A out s H args us xs Q E room still e0 bound rel hsp
    have hl := long _ _ _ _ hsp
    have inK : K.In s.heap := e0.mod.kin.keeps fun b o e => (e0.bs b o e).1
    have limit : s.heap.NoLimit := e0.mod.nolimit.keeps fun b o e => (e0.bs b o e).1
    have kinds : ∀ y ∈ ps.zip us, scope.names.lookup y.1 = some .local ∨
        (scope.names.lookup y.1 = some .cell ∧ ((cellsFrom (s.heap.objs.size + 1) scope.names []).lookup y.1).isSome = true) := by
      rintro ⟨n, v⟩ hy
      cases S.par n (List.of_mem_zip hy).1 with
      | inl q => exact .inl q
      | inr q => exact .inr ⟨q, PySem.W.cellsFrom_some _ _ _ (.inl q)⟩
    refine codeAny_call_function room.depth (inK _ _ look) rfl S.co S.gen rfl (PySem.W.codeRec_of inK code) (bound _ _ _ _ ?_)
    refine wpAny_newFunctionEnv_cells S.kind kinds fun env he z x => ?_
    subst he
    refine ⟨limit.keeps x.toInCall.keep, codeAny_func ?_⟩
    obtain ⟨t, ht, hq⟩ := inner A out s H xs Q E (room.deeper _) still hsp
    have J0 : Inv (cxOf cx P w K mg base N qual scope f cdv A out s H E) [] (start N xs) H z := inv_start S room.hd e0 hl rel x
    refine wpAny_mono (ht.run [] z (start N xs) H _ J0 hq) (fun fl z' hs => ?_) fun e z' hs => hs
    have close : ∀ {σ' : L2.St} {H2 : Hp} {v : V} {u : Value}, Inv (cxOf cx P w K mg base N qual scope f cdv A out s H E) [] σ' H2 z' → RelV v u → Q v H2 → CE out P w H s Q u z' := by
      intro σ' H2 v u J rv q
      exact ⟨v, H2, J.os, J.bare, J.base, J.hok, rv, q⟩
    cases fl with
    | ret u =>
      obtain ⟨v, σ', H2, J, rv, q⟩ := hs
      exact close J rv q
    | next =>
      obtain ⟨σ', H2, J, q⟩ := hs
      exact close (v := V.non) (u := Value.none) J rfl q
    | brk =>
      obtain ⟨_, _, _, q⟩ := hs
      exact q.elim
    | cont =>
      obtain ⟨_, _, _, q⟩ := hs
      exact q.elim

/-- for a def of the text that lets nothing out -/
theorem Kept.fn {x qual : Str} {st : Stmt} {f : Addr} {fd : FuncData} {N ps : List Str} {k : Nat} {sp : Sp} (F : Fun K x qual st f fd) (S : FnScope N ps (defScope st))
    (long : ∀ xs H Q E, sp xs H Q E → xs.length = ps.length)
    (inner : ∀ (cdv : Value) (A : Around) (out : List Env) (s : Shared) (H : Hp) (xs : List V) (Q : VK) (E : XK), Room k (A.deeper (envOfC qual (defScope st) s.heap.objs.size f cdv)) →
      Still (A.deeper (envOfC qual (defScope st) s.heap.objs.size f cdv)) → sp xs H Q E →
      ∃ t, PSs (cxOf CX0 P w K mg base N qual (defScope st) f cdv A out s H E).nox (defBody st) t ∧ t { nx := fun _ H2 => Q .non H2, rt := Q } (start N xs) H) :
    Kept P w K mg base CX0 (k + 1) f fd ps sp := by
  obtain ⟨oc, od, kV, doc, pm, an, cdv, ct, osl, e, look, code⟩ := F.ex
  subst e
  refine Kept.ok look code S long fun A out s H xs Q E room still hsp => ?_
  obtain ⟨t, h, q⟩ := inner cdv A out s H xs Q E room still hsp
  exact ⟨t, h.nox, q⟩
end

section
variable {X : Cx} {cx : CXT} {k : Nat} {f : Addr} {fd : FuncData} {ps : List Str} {sp : Sp} {dvs : List V} {ds : List Value} {E : XK} {x : Str} {p pos : Pos} {e : Expr} {es : List Expr} {t : TA}
theorem Kept.runs {pins : List (Addr × Obj)} {σ : L2.St} {H : Hp} {s : Shared} {Q : VK} {us : List Value} {xs : List V} (F : Kept X.prog X.w X.K X.mg X.base cx k f fd ps sp) (room : Room k X.A) (still : Still X.A)
    (hb : Binds X.K fd ps ds) (hd : Vals dvs ds) (hx : Passes cx X E) (I : Inv X pins σ H s) (r : Vals xs us) (h : sp (xs ++ dvs) H Q E) :
    wpAny (model X.prog X.w) X.A (call (.ref f) us) (EP X pins σ Q) X.xe s := by
  have r2 : Vals (xs ++ dvs) (us ++ ds) := r.append hd
  have hl : (us ++ ds).length = ps.length := r2.length.symm.trans (F.long _ _ _ _ h)
  refine wpAny_call (codeAny_mono (F.goes X.A X.stack s H ⟨us, []⟩ (us ++ ds) (xs ++ dvs) Q E room still I.env0 (hb s us I.kIn hl) r2 h) fun r z hq => ?_)
  match r, hq with
  | .error e, hq => exact hx pins σ H s e z I hq
  | .ok (.ret u), hq => exact I.after hq
  | .ok .next, hq => exact False.elim hq
  | .ok .brk, hq => exact False.elim hq
  | .ok .cont, hq => exact False.elim hq
/-- f(e, ..) of such a def -/
theorem pe_callG (F : Kept X.prog X.w X.K X.mg X.base cx k f fd ps sp) (room : Room k X.A) (still : Still X.A) (hg : Gl X x) (hm : X.mg x = some (.ref f)) (hk : PySem.W.keepIn X.K (.ref f) = true)
    (hb : Binds X.K fd ps ds) (hd : Vals dvs ds) (hx : Passes cx X E) (ha : PA X (e :: es) t) (hdb : (x == ("__debug__" : Str)) = false := by decide)
    (he : starEach (e :: es) X.env = (false, eval e X.env) :: starEach es X.env := by rfl) (hpl : (backTo pos (starEach es X.env)).any (·.1) = false := by rfl) :
    PE X (.Call (.Name x p) (e :: es) [] pos) (tCall sp dvs E t) := by
  constructor
  intro pins s σ H Q I h
  refine wpAny_Call_Name_kw (ld_glob I hg hm ?_ hdb)
  refine PySem.W.callWith_K (h₀ := X.base) I.ok.mod.kin hk ?_ he hpl
  exact thn (ha.run pos pins s σ H _ I h) fun us z ⟨xs, H1, J, r, q⟩ => ⟨J.kIn, F.runs room still hb hd hx J r q⟩

/-- data as it stands in the abstract heap: none, bools, ints, texts, lists, tuples, and dicts of texts and ints -/
inductive Data (K : PySem.W.Frag) (H : Hp) : V → PyData → Prop
  | flat {v : V} {d : PyData} (h : Dp K H v d) (n : d.hasDict = false) : Data K H v d
  | dict {a : Addr} {kvs : List (Str × Int)} (h : H a = some (.dK (kvs.map fun p => (Sum.inr p.1, V.int p.2)))) : Data K H (.ref a) (.dict (kvs.map fun p => (.str p.1, .int p.2)))

theorem keys_flat (h : Heap) : ∀ (kvs : List (Str × Int)) (es : List DictEntry) (vs : List (Key × Value)), Pairs (mixKind X.prog X.w) es vs → KV (kvs.map fun p => (Sum.inr p.1, V.int p.2)) vs →
    ReadsAll h (es.map (·.key)) ((kvs.map fun p => ((PyData.str p.1, PyData.int p.2) : PyData × PyData)).map (·.1)) [] ∧ ReadsAll h (es.map (·.val)) ((kvs.map fun p => ((PyData.str p.1, PyData.int p.2) : PyData × PyData)).map (·.2)) [] := by
  intro kvs
  induction kvs with
  | nil =>
    intro es vs hp rel
    cases rel
    cases hp
    exact ⟨.nil, .nil⟩
  | cons p kvs ih =>
    intro es vs hp rel
    cases rel with
    | @cons _ kv _ vs' r1 r2 =>
      cases hp with
      | @cons e _ es' _ hk hv hp' =>
        obtain ⟨q1, q2⟩ := ih _ _ hp' r2
        obtain ⟨k0, v0⟩ := kv
        obtain ⟨r3, r4⟩ := r1
        dsimp only at r3 r4 hk hv
        subst r3
        obtain ⟨t, r4⟩ := r4
        rcases keyIs_shape (show keyIs (Sum.inr p.1 : Key) e.key = true from hk) with ⟨i, t', z, _⟩ | ⟨x, t', z, e'⟩
        · cases z
        · cases z
          refine ⟨?_, ?_⟩
          · show ReadsAll h (e.key :: _) (PyData.str p.1 :: _) ([] ++ [])
            rw [e']
            exact .cons (.str _ _) q1
          · show ReadsAll h (e.val :: _) (PyData.int p.2 :: _) ([] ++ [])
            rw [hv, r4]
            exact .cons (.int _ _) q2
theorem Data.reads {pins : List (Addr × Obj)} {σ : L2.St} {H : Hp} {s : Shared} (I : Inv X pins σ H s) {v : V} {u : Value} {d : PyData} (h : Data X.K H v d) (r : RelV v u) :
    ∃ as, Reads s.heap u d as ∧ (d.hasDict = true → sysModules ∉ as) := by
  cases h with
  | flat h n =>
    obtain ⟨as, q⟩ := Dp.reads I d v u h r
    exact ⟨as, q, fun z => by rw [n] at z; cases z⟩
  | @dict a kvs h =>
    cases r
    obtain ⟨hz, hs, vs, rel, o, es, ep, ho, hx, hd, _, hp, _⟩ := I.hok a _ h
    obtain ⟨q1, q2⟩ := keys_flat (X := X) s.heap kvs _ _ hp rel
    refine ⟨_, Reads.dict ho hx.1 hd q1 q2, fun _ z => ?_⟩
    simp only [List.append_nil, List.mem_singleton] at z
    rw [z] at hs
    simp at hs

/-- repr(x) -/
def rShow (K : PySem.W.Frag) : List V → Hp → VK → Prop := fun xs H Q => ∃ (x : V) (d : PyData), xs = [x] ∧ Data K H x d ∧ d.showable = true ∧ d.depth < 60 ∧ d.shown.length ≤ sizeLine ∧ Q (.str d.shown) H
theorem call_show (still : Still X.A) (hu : X.A.units + 64 < cLine) : CallR X (.builtin "repr") (rShow X.K) := by
  intro pins s σ H xs us Q I r h
  obtain ⟨x, d, rfl, hd, h1, h3, h4, q⟩ := h
  obtain ⟨u, rfl, r1⟩ : ∃ u, us = [u] ∧ RelV x u := by
    cases r with
    | cons a b => cases b; exact ⟨_, rfl, a⟩
  obtain ⟨as, rd, hsm⟩ := Data.reads I hd r1
  cases rd with
  | none => exact P.repr_of_none ⟨.str (PyData.shown .none), H, I.tok _, ⟨_, rfl⟩, q⟩
  | bool b => exact P.repr_of_bool ⟨.str (PyData.shown (.bool b)), H, I.tok _, ⟨_, rfl⟩, q⟩
  | int i t => exact P.repr_of_int (of_decide_eq_true h1) ⟨.str (PyData.shown (.int i)), H, I.tok _, ⟨_, rfl⟩, q⟩
  | str z t => exact P.repr_of_str ⟨.str (PyData.shown (.str z)), H, I.tok _, ⟨_, rfl⟩, q⟩ h4
  | list a1 a2 a3 a4 => exact repr_of_reads' (Reads.list a1 a2 a3 a4) h1 hsm still (by omega) (fun _ _ e => e) (fun h' u tk hk => ⟨.str (PyData.shown _), H, I.kept (t' := tk) hk, ⟨_, rfl⟩, q⟩) h4
  | tuple a1 a2 a3 a4 => exact repr_of_reads' (Reads.tuple a1 a2 a3 a4) h1 hsm still (by omega) (fun _ _ e => e) (fun h' u tk hk => ⟨.str (PyData.shown _), H, I.kept (t' := tk) hk, ⟨_, rfl⟩, q⟩) h4
  | dict a1 a2 a3 a4 a5 => exact repr_of_reads' (Reads.dict a1 a2 a3 a4 a5) h1 hsm still (by omega) (fun _ _ e => e) (fun h' u tk hk => ⟨.str (PyData.shown _), H, I.kept (t' := tk) hk, ⟨_, rfl⟩, q⟩) h4
end

/-! ### the head: the law's call, nothing being shown -/
section
variable {P : Program} {w : World} {K : PySem.W.Frag} {mg mb : Str → Option Value} {cx : CXT} {k : Nat} {fa a : Addr} {fd : FuncData} {x : Str} {sp : Sp} {s₁ : Shared} {vs : List Value} {ns : List Int}
/-- from one abstract heap in which at most the script stands -/
theorem law_core (KX : K.In s₁.heap) (hns : s₁.heap.Ns mainGlobals mg) (hb : s₁.heap.Ns builtinsNs mb) (hbb : ∀ x : Str, x ≠ "__name__" → mb x = bootBuiltins x) (hlim : s₁.heap.NoLimit) (hg : s₁.gens = #[])
    (ha : s₁.heap.get? a = some { cls := .type "list", data := .seq vs.toArray }) (room : Room k callerA)
    (F : ∀ base : Heap, K.In base → base.Ns mainGlobals mg → Kept P w K mg base cx k fa fd [x] sp) (hbind : ∀ (s : Shared) (u : Value), BindsTo s fd ⟨[u], []⟩ [(x, u)])
    (hcx : ∀ H e z, cx [] H s₁ (fun _ _ _ => False) e z → False)
    (H : Hp) (only : Only H) (want : sp [.ref a] H (fun v _ => v = .bl true) fun _ _ _ => False) (hok : HOk P w H s₁.heap) (at_a : ∀ b, H b ≠ none → b = a) (notK : H a ≠ none → K.lookup a = none) :
    codeAny (model P w) callerA (.call (.ref fa) ⟨[.ref a], []⟩) (fun r z => r = .ok (.ret (.bool true)) ∧ OldK s₁.heap z.heap ∧ z.os = s₁.os ∧ AllBare z.gens) s₁ := by
  have under : ∀ {b : Addr} {o : Obj}, s₁.heap.get? b = some o → H b = none → (hidT s₁.heap H).get? b = some o := fun e n => hidT_get e n
  have away : ∀ {b : Addr}, (b = a → False) → H b = none := by
    intro b n
    cases q : H b with
    | none => rfl
    | some u => exact (n (at_a b (by rw [q]; simp))).elim
  have noDict : ∀ {b : Addr} {o : Obj} {es : Array DictEntry} {ep : Nat}, s₁.heap.get? b = some o → o.data = .dict es ep → H b = none := by
    intro b o es ep e d
    refine away fun z => ?_
    subst z
    rw [ha] at e
    cases e
    cases d
  have names : ∀ {b : Addr} {m : Str → Option Value}, s₁.heap.Ns b m → (hidT s₁.heap H).Ns b m := by
    rintro b m ⟨o, es, ep, e, d, r⟩
    exact ⟨o, es, ep, under e (noDict e d), d, r⟩
  have inB : K.In (hidT s₁.heap H) := by
    intro b o e
    refine under (KX b o e) ?_
    cases q : H b with
    | none => rfl
    | some u =>
      have z := at_a b (by rw [q]; simp)
      subst z
      have n := notK (by rw [q]; simp)
      rw [n] at e
      cases e
  have md : Mod K mg (hidT s₁.heap H) := ⟨inB, names hns, ⟨mb, names hb, hbb⟩, let ⟨mc, h1, h2⟩ := hlim; ⟨mc, names h1, h2⟩⟩
  have e0 : Env0 P w K mg (hidT s₁.heap H) callerA [] s₁ H := by
    refine ⟨rfl, md, fun b o e => of_hidT e, Nat.le_of_eq (hidT_size _ _), trivial, fun b hb => ?_, hok, .of_eq hg⟩
    exact absurd (show b ∈ ([] : List Addr) from hb) (by simp)
  refine codeAny_mono ((F _ inB (names hns)).goes callerA [] s₁ H ⟨[.ref a], []⟩ [.ref a] [.ref a] _ _ room rfl e0 (hbind s₁ (.ref a)) (.cons rfl .nil) want) fun r z h => ?_
  match r, h with
  | .error e, h => exact (hcx H e z h).elim
  | .ok .next, h => exact False.elim h
  | .ok .brk, h => exact False.elim h
  | .ok .cont, h => exact False.elim h
  | .ok (.ret u), h =>
    obtain ⟨v, H2, os, bare, un, hok2, r2, q⟩ := h
    have q' : v = .bl true := q
    subst q'
    obtain rfl : u = Value.bool true := r2
    refine ⟨rfl, OldK.of_keep fun b o e => ?_, os, bare⟩
    cases q : H b with
    | none =>
      refine un.keep b o e q (fun y => ?_) (by simp)
      exact absurd (show b ∈ ([] : List Addr) from y) (by simp)
    | some u =>
      rcases only b with y | ⟨ob, xs, y⟩
      · rw [q] at y
        cases y
      · have y2 := un.frzs b ob _ y
        obtain ⟨e1, _⟩ := hok b _ y
        obtain ⟨e2, _⟩ := hok2 b _ y2
        rw [e] at e1
        cases e1
        exact e2

theorem law_call (KX : K.In s₁.heap) (hns : s₁.heap.Ns mainGlobals mg) (hb : s₁.heap.Ns builtinsNs mb) (hbb : ∀ x : Str, x ≠ "__name__" → mb x = bootBuiltins x) (hlim : s₁.heap.NoLimit) (hg : s₁.gens = #[])
    (ha : s₁.heap.get? a = some { cls := .type "list", data := .seq vs.toArray }) (hi : IntsAre vs ns) (hl : ns.length ≤ sizeLine) (room : Room k callerA)
    (F : ∀ base : Heap, K.In base → base.Ns mainGlobals mg → Kept P w K mg base cx k fa fd [x] sp) (hbind : ∀ (s : Shared) (u : Value), BindsTo s fd ⟨[u], []⟩ [(x, u)])
    (hsp : ∀ H : Hp, Only H → SqL K H a (ns.map V.int) → sp [.ref a] H (fun v _ => v = .bl true) fun _ _ _ => False)
    (hcx : ∀ H e z, cx [] H s₁ (fun _ _ _ => False) e z → False) :
    codeAny (model P w) callerA (.call (.ref fa) ⟨[.ref a], []⟩) (fun r z => r = .ok (.ret (.bool true)) ∧ OldK s₁.heap z.heap ∧ z.os = s₁.os ∧ AllBare z.gens) s₁ := by
  have rel := vals_ints hi
  have len := hi.length
  have core := law_core KX hns hb hbb hlim hg ha room F hbind hcx
  cases hk : K.lookup a with
  | some o =>
    have e := KX a o hk
    rw [ha] at e
    cases e
    have only : Only (fun _ => none) := fun _ => .inl rfl
    refine core (fun _ => none) only (hsp _ only ?_) (fun b u z => nomatch (show (none : Option HO) = some u from z)) (fun b z => absurd rfl z) fun z => absurd rfl z
    exact .inr ⟨_, vs.toArray, _, hk, rfl, rfl, rfl, by rw [List.size_toArray, len]; exact hl, by simpa using rel⟩
  | none =>
    have only : Only (fun b => if b = a then some (.frz { cls := .type "list", data := .seq vs.toArray } (.lst (ns.map V.int))) else none) := by
      intro b
      by_cases z : b = a
      · exact .inr ⟨_, _, if_pos z⟩
      · exact .inl (if_neg z)
    refine core _ only (hsp _ only ?_) (fun b u z => ?_) (fun b z => ?_) fun _ => hk
    · exact .inl (.inr ⟨{ cls := .type "list", data := .seq vs.toArray }, if_pos rfl⟩)
    · by_cases y : b = a
      · have z' := (if_pos y).symm.trans z
        cases z'
        subst y
        exact ⟨ha, by rw [List.length_map]; exact hl, vs, _, rel, ha⟩
      · have z' := (if_neg y).symm.trans z
        cases z'
    · by_cases y : b = a
      · exact y
      · exact absurd (if_neg y) z
end

/-- the goal that the head leaves -/
theorem walk {l : PySem.W.OpenLaw} {n k : Nat} {q : Program} {loose : List Str} {XP : (Str → Option Value) → Heap → Prop} {YP : World → Heap → Prop} {d : DefRec} {K : Params → PySem.W.Frag} {cx : World → CXT} {sp : World → Sp} {x : Str}
    (hn : l.most = some n) (hn2 : n ≤ sizeLine) (hdf : d.params.defaults = []) (room : Room k callerA) (hY : ∀ (w : World) (h : Heap), YP w h → (K w.params).In h)
    (F : ∀ (w : World) (mg : Str → Option Value) (fa : Addr) (h : Heap), (K w.params).In h → h.Ns mainGlobals mg → mg d.name = some (.ref fa) → XP mg h →
      ∃ fd : FuncData, (∀ (s : Shared) (u : Value), BindsTo s fd ⟨[u], []⟩ [(x, u)]) ∧
        ∀ base : Heap, (K w.params).In base → base.Ns mainGlobals mg → Kept l.prog w (K w.params) mg base (cx w) k fa fd [x] (sp w))
    (hsp : ∀ (w : World) (H : Hp) (a : Addr) (ns : List Int), ns.length ≤ n → Only H → SqL (K w.params) H a (ns.map V.int) → sp w [.ref a] H (fun v _ => v = .bl true) fun _ _ _ => False)
    (hcx : ∀ (w : World) (H : Hp) (s : Shared) (e : Value) (z : Shared), cx w [] H s (fun _ _ _ => False) e z → False) :
    PySem.W.WalkO q loose XP YP l.row.toRowW d [] (fun f vs => PySem.call f vs) := by
  refine Att.attach_call hn hdf ?_
  intro w s₀ s₁ mg mb fa o pm cd doc a vs ns G Y ho hd hcd hmg hobj hints hlen hg
  have KX := hY w _ Y
  obtain ⟨fd, hb, hF⟩ := F w mg fa _ KX G.T.g hmg G.X
  exact law_call KX G.T.g G.T.b G.T.builtins G.T.nolimit hg hobj hints (Nat.le_trans hlen hn2) room hF hb (fun H hO hS => hsp w H a ns hlen hO hS) fun H e z => hcx w H s₁ e z
end Tg

set_option Elab.async false
set_option linter.all false
set_option maxRecDepth 100000
set_option maxHeartbeats 3200000
/-! set(a text), sorted(it), list(a text), as rules -/
namespace Tx
open PySem PySem.Spec PyProof.Rows L2

/-- the signs of a text, each once, rising -/
def ups (l : List Nat) : List Nat := (met [] l).mergeSort (fun a b => decide (a ≤ b))
theorem ups_perm (l : List Nat) : (ups l).Perm (met [] l) := List.mergeSort_perm _ _
theorem ups_mem (l : List Nat) (c : Nat) : c ∈ ups l ↔ c ∈ l := by
  rw [(ups_perm l).mem_iff, met_mem]
  simp
theorem ups_nodup (l : List Nat) : (ups l).Nodup := (ups_perm l).nodup_iff.mpr (met_nodup l [] List.nodup_nil)
theorem ups_up (l : List Nat) : (ups l).Pairwise (· < ·) := by
  have h1 : (ups l).Pairwise (fun a b => decide (a ≤ b) = true) :=
    List.pairwise_mergeSort (le := fun a b : Nat => decide (a ≤ b)) (fun a b c h1 h2 => by
      have h1' := of_decide_eq_true h1
      have h2' := of_decide_eq_true h2
      exact decide_eq_true (Nat.le_trans h1' h2')) (fun a b => by
      rcases Nat.le_total a b with z | z
      · simp [z]
      · simp [z]) (met [] l)
  have h2 : (ups l).Pairwise (· ≠ ·) := ups_nodup l
  refine List.Pairwise.imp₂ (fun x y a b => ?_) h1 h2
  have a' := of_decide_eq_true a
  omega
theorem up_eq : ∀ {l m : List Nat}, l.Pairwise (· < ·) → m.Pairwise (· < ·) → (∀ c, c ∈ l ↔ c ∈ m) → l = m
  | [], [], _, _, _ => rfl
  | [], y :: m, _, _, h => by have := (h y).mpr List.mem_cons_self; simp at this
  | x :: l, [], _, _, h => by have := (h x).mp List.mem_cons_self; simp at this
  | x :: l, y :: m, h1, h2, h => by
    obtain ⟨a1, a2⟩ := List.pairwise_cons.mp h1
    obtain ⟨b1, b2⟩ := List.pairwise_cons.mp h2
    have e : x = y := by
      rcases List.mem_cons.mp ((h x).mp List.mem_cons_self) with z | z
      · exact z
      · rcases List.mem_cons.mp ((h y).mpr List.mem_cons_self) with u | u
        · exact u.symm
        · have := a1 y u
          have := b1 x z
          omega
    subst e
    rw [up_eq a2 b2 fun c => ?_]
    constructor
    · intro q
      rcases List.mem_cons.mp ((h c).mp (List.mem_cons_of_mem _ q)) with z | z
      · subst z
        exact absurd (a1 _ q) (Nat.lt_irrefl _)
      · exact z
    · intro q
      rcases List.mem_cons.mp ((h c).mpr (List.mem_cons_of_mem _ q)) with z | z
      · subst z
        exact absurd (b1 _ q) (Nat.lt_irrefl _)
      · exact z
theorem ups_of {l ns : List Nat} (h : ns.Pairwise (· < ·)) (p : ns.Perm (met [] l)) : ns = ups l :=
  up_eq h (ups_up l) fun c => by rw [p.mem_iff, ups_mem, met_mem]; simp

/-- one-sign texts as values -/
abbrev ones (l : List Nat) : List V := l.map fun c => V.str (one c)
theorem ones_map (l : List Nat) : ones l = (l.map one).map V.str := by rw [List.map_map]; rfl

/-- the set of texts at a -/
def TO (w : World) (a : Addr) (acc : List Nat) : HO := .ext fun h => At w h a (acc.map one)
section
variable {X : Cx}
theorem to_new {w : World} {P : Program} {H : Hp} {h : Heap} {a : Addr} {acc : List Nat} (R : At w h a (acc.map one)) : ObjOk P w H h a (TO w a acc) :=
  ⟨R, let ⟨o, _, _, _, ho, _⟩ := R; ⟨o, ho⟩, fun _ _ p k => At.stays p k⟩
/-- set(s), s a text of few different signs -/
def rSetTx (w : World) : List V → Hp → VK → Prop := fun xs H Q => ∃ z : Str, xs = [.str z] ∧ (met [] z.cps.toList).length < 64 ∧ ∀ p, H p = none → Q (.ref p) (upd H p (TO w p (met [] z.cps.toList)))
theorem cr_setTx (hc : X.calm = true) : CallR X (.type "set") (rSetTx X.w) := by
  intro pins s σ H xs us Q I r h
  obtain ⟨z, rfl, hf, q⟩ := h
  obtain ⟨t, rfl⟩ : ∃ t, us = [Value.str z t] := by
    cases r with
    | cons a b =>
      cases b
      obtain ⟨t, rfl⟩ := a
      exact ⟨t, rfl⟩
  have hb : (met [] z.cps.toList).length + 1 < scanBound := by
    have : (64 : Nat) + 1 < scanBound := by decide
    omega
  refine call_set_text (P := X.prog) (w := X.w) (I.ok.hd hc) hb fun h' tk R k => ?_
  exact ⟨.ref _, upd H s.heap.objs.size (TO X.w s.heap.objs.size (met [] z.cps.toList)), I.laid (t' := tk) k (Nat.le_refl _) (to_new R), rfl, q _ (I.hok.fresh (Nat.le_refl _))⟩
/-- sorted(a set of texts) -/
def rSortTx (w : World) : List V → Hp → VK → Prop := fun xs H Q => ∃ (a : Addr) (l : List Nat), xs = [.ref a] ∧ H a = some (TO w a (met [] l)) ∧ (met [] l).length < 64 ∧ ∀ p, H p = none → Q (.ref p) (upd H p (.lst (ones (ups l))))
theorem cr_sortTx (hc : X.calm = true) : CallR X (.builtin "sorted") (rSortTx X.w) := by
  intro pins s σ H vs us Q I r h
  obtain ⟨a, l, rfl, ha, h64, q⟩ := h
  have R : At X.w s.heap a ((met [] l).map one) := (I.hok a _ ha).1
  rw [Vals.ref1 r]
  refine sorted_text (P := X.prog) R (met_nodup l [] List.nodup_nil) (I.ok.hd hc) h64 fun z p out c ns k g o hp hg hS up pm => ?_
  obtain rfl := ups_of up pm
  have hlen : (ones (ups l)).length ≤ sizeLine := by
    rw [List.length_map, pm.length_eq, sizeLine_eq]
    omega
  have hn : H p = none := I.hok.fresh hp
  have hv : Vals (ones (ups l)) out.toList := by rw [ones_map]; exact vals_of_strs hS
  have J : Inv X pins σ (upd H p (.lst (ones (ups l)))) { s with heap := z.heap, gens := z.gens, drawn := z.drawn, toks := z.toks } :=
    I.call (ch := []) (Un.laid k hp hn) (I.hok.laid k hp ⟨hlen, out.toList, c, hv, hg⟩) (by rw [g]; exact I.bare) (fun _ y => nomatch y)
  have e : z = { s with heap := z.heap, gens := z.gens, drawn := z.drawn, toks := z.toks } := by
    cases z
    cases s
    cases o
    rfl
  rw [e]
  exact ⟨.ref p, _, J, rfl, q p hn⟩
/-- list(s), s a text -/
def rListTx : List V → Hp → VK → Prop := fun xs H Q => ∃ z : Str, xs = [.str z] ∧ z.length ≤ sizeLine ∧ ∀ p, H p = none → Q (.ref p) (upd H p (.lst (ones z.cps.toList)))
theorem signs_vals {z : Str} {acc : Array Value} (h : ItemsOf (SignAt z) acc z.cps.size) : Vals (ones z.cps.toList) acc.toList := by
  have all : ∀ (l : List Nat) (us : List Value), us.length = l.length → (∀ (j : Nat) (v : Value), us[j]? = some v → ∃ (c : Nat) (u : Tok), l[j]? = some c ∧ v = Value.str (one c) u) → Vals (ones l) us := by
    intro l
    induction l with
    | nil =>
      intro us hl _
      cases us with
      | nil => exact .nil
      | cons u us => simp at hl
    | cons c l ih =>
      intro us hl hg
      cases us with
      | nil => simp at hl
      | cons u us =>
        obtain ⟨d, t, h1, h2⟩ := hg 0 u rfl
        have e : c = d := Option.some.inj h1
        subst e
        refine .cons ⟨t, h2⟩ (ih us (by simpa using hl) fun j v hv => ?_)
        exact hg (j + 1) v hv
  refine all _ _ (by rw [Array.length_toList, Array.length_toList]; exact h.1) fun j v hv => ?_
  rw [Array.getElem?_toList] at hv
  obtain ⟨c, u, h1, h2⟩ := h.2 j v hv
  exact ⟨c, u, by rw [Array.getElem?_toList]; exact h1, h2⟩
theorem cr_listTx (hc : X.calm = true) : CallR X (.type "list") rListTx := by
  intro pins s σ H xs us Q I r h
  obtain ⟨z, rfl, hl, q⟩ := h
  cases r with
  | cons a b =>
    cases b
    obtain ⟨t, rfl⟩ := a
    refine call_list_str (I.ok.hd hc) z t (hn := hl) fun h' tk acc c k hg hi => ?_
    have hz : (ones z.cps.toList).length ≤ sizeLine := by
      rw [List.length_map, Array.length_toList]
      exact hl
    exact ⟨.ref _, upd H s.heap.objs.size (.lst (ones z.cps.toList)), I.laid (t' := tk) k (Nat.le_refl _) ⟨hz, acc.toList, c, signs_vals hi, by simpa using hg⟩, rfl, q _ (I.hok.fresh (Nat.le_refl _))⟩
/-- a ** b, the result below 2 ^ 27 bits -/
theorem op_powW : OpR X (binaryOp .Pow) (rI (fun i j => 0 ≤ j ∧ (Builtin.Int.intBits i : Int) * j ≤ 2 ^ 27) fun i j => .int (i ^ j.toNat)) := opI fun _ _ _ _ _ _ _ hc q => pow_int hc.1 hc.2 q
end
end Tx

set_option Elab.async false
set_option linter.all false
set_option maxRecDepth 100000
set_option maxHeartbeats 3200000
/-! what the judges are worth, over plain data -/
namespace Tm
open PySem PySem.Spec PySem.Builtin PySem.Builtin.Str PyProof.Rows L2 Tx

abbrev cds (z : Str) : List Nat := z.cps.toList
theorem cds_ext {y z : Str} (h : cds y = cds z) : y = z := by
  cases y with
  | mk a =>
    cases z with
    | mk b =>
      have e : a = b := Array.toList_inj.mp h
      rw [e]
theorem cds_len (z : Str) : (cds z).length = z.length := by
  show z.cps.toList.length = z.cps.size
  rw [Array.length_toList]
/-- every sign of z is one of sg -/
def only (z sg : Str) : Bool := (cds z).all fun c => decide (c ∈ cds sg)
theorem only_iff {z sg : Str} : only z sg = true ↔ ∀ c ∈ cds z, c ∈ cds sg := by
  unfold only
  rw [List.all_eq_true]
  exact ⟨fun h c hc => of_decide_eq_true (h c hc), fun h c hc => decide_eq_true (h c hc)⟩
theorem getD_mem {z : Str} {k : Nat} (h : k < z.length) : z.cps.getD k 0 ∈ cds z := by
  have h' : k < z.cps.size := h
  have e : z.cps.getD k 0 = z.cps[k] := by simp [Array.getD, h']
  rw [e]
  exact Array.getElem_mem_toList h'
theorem mem_getD {z : Str} {c : Nat} (h : c ∈ cds z) : ∃ k, k < z.length ∧ z.cps.getD k 0 = c := by
  obtain ⟨k, hk, e⟩ := List.getElem_of_mem h
  have hk' : k < z.cps.size := by rw [Array.length_toList] at hk; exact hk
  refine ⟨k, hk', ?_⟩
  rw [← e]
  simp [Array.getD, hk']
theorem goes_iff {sg : Str} {c : Nat} : sg.cps.contains c = true ↔ c ∈ cds sg := by
  rw [Array.contains_iff_mem, Array.mem_toList_iff]
/-- strip with all the signs of sg leaves nothing exactly if there is no other sign -/
theorem strip_only (z sg : Str) : decide (Txt.stripChars z sg = Str.empty) = only z sg := by
  unfold Txt.stripChars
  rw [stripBy_eq]
  obtain ⟨a1, a2, a3⟩ := lo_facts sg.cps.contains z
  obtain ⟨b1, b2, b3, b4⟩ := hi_facts sg.cps.contains z _ a1
  generalize stripLo sg.cps.contains true z = lo at a1 a2 a3 b1 b2 b3 b4 ⊢
  generalize stripHi sg.cps.contains true z lo = hi at b1 b2 b3 b4 ⊢
  have key : strSub z lo hi = Str.empty ↔ lo = hi := by
    constructor
    · intro h
      have e : (z.cps.extract lo hi).size = 0 := by
        have := congrArg (fun y : Str => y.cps.size) h
        exact this
      rw [Array.size_extract] at e
      have hb : hi ≤ z.cps.size := b2
      omega
    · intro h
      subst h
      refine cds_ext ?_
      show (z.cps.extract lo lo).toList = (Str.empty).cps.toList
      rw [Array.extract_empty_of_stop_le_start (Nat.le_refl _)]
      rfl
  by_cases h : only z sg = true
  · rw [h]
    refine decide_eq_true (key.mpr ?_)
    have all := only_iff.mp h
    rcases Nat.lt_or_ge lo z.length with hl | hl
    · exfalso
      rcases a3 with e | e
      · omega
      · have := goes_iff.mpr (all _ (getD_mem hl))
        rw [e] at this
        cases this
    · have c2 : hi ≤ z.length := b2
      omega
  · have h' : only z sg = false := by simpa using h
    rw [h']
    refine decide_eq_false fun q => h (only_iff.mpr fun c hc => ?_)
    have e := key.mp q
    obtain ⟨k, hk, rfl⟩ := mem_getD hc
    rcases Nat.lt_or_ge k lo with u | u
    · exact goes_iff.mp (a2 k u)
    · exact goes_iff.mp (b3 k (by omega) hk)

/-! ### the judges -/
def big : Int := 10 ^ 200
def isInt : PyData → Bool
  | .int n => decide (n.natAbs < 10 ^ 200)
  | _ => false
def has (sg : Str) (most : Nat) : PyData → Bool
  | .str z => decide (z.length ≤ most) && only z sg
  | _ => false
def alpha : Str := "abcdefghijklmnopqrstuvwxyz"
def name : PyData → Bool
  | .str z => decide (z.length ≤ 8) && only z alpha && decide (z ≠ Str.empty)
  | _ => false
def rise (z : Str) : Bool := decide (cds z = ups (cds z))
def letters : PyData → Bool
  | .str z => decide (z.length ≤ 3) && only z alpha && decide (z ≠ Str.empty) && rise z
  | _ => false
def prime : PyData → Bool
  | .int n => decide (n = 2 ∨ n = 3 ∨ n = 5 ∨ n = 7)
  | _ => false
def lows (z : Str) : Bool := (cds z).all fun c => decide (97 ≤ c) && decide (c ≤ 122)
def small (most : Nat) : PyData → Bool
  | .str z => decide (1 ≤ z.length) && decide (z.length ≤ most) && lows z
  | _ => false
theorem alpha_iff (c : Nat) : c ∈ cds alpha ↔ 97 ≤ c ∧ c ≤ 122 := by
  have e : cds alpha = (List.range 26).map (· + 97) := by decide +kernel
  rw [e, List.mem_map]
  constructor
  · rintro ⟨k, hk, rfl⟩
    have := List.mem_range.mp hk
    omega
  · rintro ⟨h1, h2⟩
    exact ⟨c - 97, List.mem_range.mpr (by omega), by omega⟩
theorem only_alpha (z : Str) : only z alpha = lows z := by
  unfold only lows
  congr 1
  funext c
  by_cases h : c ∈ cds alpha
  · have := (alpha_iff c).mp h
    simp [h, this.1, this.2]
  · have h2 : ¬ (97 ≤ c ∧ c ≤ 122) := fun q => h ((alpha_iff c).mpr q)
    rw [decide_eq_false h, ← Bool.decide_and, decide_eq_false h2]
theorem nonempty_iff (z : Str) : z ≠ Str.empty ↔ 1 ≤ z.length := by
  constructor
  · intro h
    rcases Nat.eq_zero_or_pos z.length with e | e
    · exfalso
      apply h
      apply cds_ext
      have : (cds z).length = 0 := by rw [cds_len]; exact e
      rw [List.length_eq_zero_iff.mp this]
      rfl
    · exact e
  · intro h e
    subst e
    exact absurd h (by decide)
theorem name_small (d : PyData) : name d = small 8 d := by
  cases d with
  | str z =>
    show (decide (z.length ≤ 8) && only z alpha && decide (z ≠ Str.empty)) = (decide (1 ≤ z.length) && decide (z.length ≤ 8) && lows z)
    rw [only_alpha, decide_eq_decide.mpr (nonempty_iff z)]
    cases decide (z.length ≤ 8) <;> cases lows z <;> cases decide (1 ≤ z.length) <;> rfl
  | _ => rfl
theorem letters_small (d : PyData) : letters d = (small 3 d && (match d with | .str z => rise z | _ => false)) := by
  cases d with
  | str z =>
    show (decide (z.length ≤ 3) && only z alpha && decide (z ≠ Str.empty) && rise z) = (decide (1 ≤ z.length) && decide (z.length ≤ 3) && lows z && rise z)
    rw [only_alpha, decide_eq_decide.mpr (nonempty_iff z)]
    cases decide (z.length ≤ 3) <;> cases lows z <;> cases decide (1 ≤ z.length) <;> cases rise z <;> rfl
  | _ => rfl

/-! ### how numbers and texts are shown -/
theorem shown_int {n k : Int} (h : (toString n : String) = toString k) : n = k := by
  have e := congrArg String.toInt? h
  simpa using e

/-- a text that is judged: short, plain signs, few unlike ones -/
structure Fine (z : Str) : Prop where
  long : z.length ≤ 4001
  few : (met [] (cds z)).length < 64
  plain : ∀ c ∈ cds z, c < 128
/-- the four texts of the primes -/
abbrev four : List V := [.str "2", .str "3", .str "5", .str "7"]
/-- data that is judged -/
def Ok : PyData → Prop
  | .int n => n.natAbs.log2 < 1920
  | .str z => Fine z
  | d => d.showable = true ∧ d.depth < 60 ∧ d.shown.length ≤ sizeLine ∧ inV (.str d.shown) four = false
end Tm

set_option Elab.async false
set_option linter.all false
set_option maxRecDepth 100000
set_option maxHeartbeats 3200000
namespace K4
open PySem L2 Tx Tg Tm
def top (i : Nat) : Stmt := PySem.Challenge.pw_whatcounts_k04_whole_words_as_a_group.main.body.getD i (.Pass ⟨0, 0, 0, 0⟩)
abbrev sInt : Stmt := top 14
abbrev sLetters : Stmt := top 15
abbrev sSigned : Stmt := top 16
abbrev sCheck : Stmt := top 17
abbrev sHas : Stmt := top 18
abbrev sCheckSigned : Stmt := top 20
abbrev sBetween : Stmt := top 21
abbrev sMost : Stmt := top 22
abbrev sJoin : Stmt := top 26
abbrev sUndo : Stmt := top 27
abbrev sBracket : Stmt := top 28
abbrev sOfSigns : Stmt := top 29
abbrev sSignsOf : Stmt := top 30
abbrev sCheckWord : Stmt := top 34
abbrev sIsRow : Stmt := top 35
abbrev sIsRun : Stmt := top 36
abbrev sCup : Stmt := top 39
abbrev sBit : Stmt := top 40
abbrev sPick : Stmt := top 41
abbrev sSigns : Stmt := top 42
abbrev sPower : Stmt := top 43
abbrev sPut : Stmt := top 44
abbrev sLJoint : Stmt := top 45
abbrev sLUndone : Stmt := top 46
abbrev sRow : Stmt := top 47
abbrev sSwap : Stmt := top 48
abbrev sRep : Stmt := top 49
abbrev sRight : Stmt := top 50
abbrev sLaw : Stmt := top 51
/-! ### values -/
inductive Val (H : Hp) : V → PyData → Prop
  | non : Val H .non .none
  | bl (b : Bool) : Val H (.bl b) (.bool b)
  | int (n : Int) : Val H (.int n) (.int n)
  | str (z : Str) : Val H (.str z) (.str z)
  | lst {a : Addr} (l : List Str) (h : H a = some (.lst (l.map V.str))) : Val H (.ref a) (.list (l.map PyData.str))
  | tup {a : Addr} (l : List Str) (h : H a = some (.tup (l.map V.str))) : Val H (.ref a) (.tuple (l.map PyData.str))
  | tupI {a : Addr} (l : List Int) (h : H a = some (.tup (l.map V.int))) : Val H (.ref a) (.tuple (l.map PyData.int))
  | dct {a : Addr} (kvs : List (Str × Int)) (h : H a = some (.dK (kvs.map fun p => (Sum.inr p.1, V.int p.2)))) : Val H (.ref a) (.dict (kvs.map fun p => (.str p.1, .int p.2)))
theorem Val.same {H H' : Hp} {v : V} {d : PyData} (s : Same H H') (h : Val H v d) : Val H' v d := by
  cases h with
  | non => exact .non
  | bl b => exact .bl b
  | int n => exact .int n
  | str z => exact .str z
  | lst l h => exact .lst l (s _ _ h)
  | tup l h => exact .tup l (s _ _ h)
  | tupI l h => exact .tupI l (s _ _ h)
  | dct l h => exact .dct l (s _ _ h)
def intTy : PyData → Bool
  | .int _ => true
  | .bool _ => true
  | _ => false
def strTy : PyData → Bool
  | .str _ => true
  | _ => false
def blTy : PyData → Bool
  | .bool _ => true
  | _ => false
theorem k_NoneType_int : kitB "NoneType" "int" = some false := by decide +kernel
theorem k_NoneType_str : kitB "NoneType" "str" = some false := by decide +kernel
theorem k_NoneType_bool : kitB "NoneType" "bool" = some false := by decide +kernel
theorem k_bool_int : kitB "bool" "int" = some true := by decide +kernel
theorem k_bool_str : kitB "bool" "str" = some false := by decide +kernel
theorem k_bool_bool : kitB "bool" "bool" = some true := by decide +kernel
theorem k_int_int : kitB "int" "int" = some true := by decide +kernel
theorem k_int_str : kitB "int" "str" = some false := by decide +kernel
theorem k_int_bool : kitB "int" "bool" = some false := by decide +kernel
theorem k_str_int : kitB "str" "int" = some false := by decide +kernel
theorem k_str_str : kitB "str" "str" = some true := by decide +kernel
theorem k_str_bool : kitB "str" "bool" = some false := by decide +kernel
theorem k_list_int : kitB "list" "int" = some false := by decide +kernel
theorem k_list_str : kitB "list" "str" = some false := by decide +kernel
theorem k_list_bool : kitB "list" "bool" = some false := by decide +kernel
theorem k_tuple_int : kitB "tuple" "int" = some false := by decide +kernel
theorem k_tuple_str : kitB "tuple" "str" = some false := by decide +kernel
theorem k_tuple_bool : kitB "tuple" "bool" = some false := by decide +kernel
theorem k_dict_int : kitB "dict" "int" = some false := by decide +kernel
theorem k_dict_str : kitB "dict" "str" = some false := by decide +kernel
theorem k_dict_bool : kitB "dict" "bool" = some false := by decide +kernel
theorem Val.ty {K : PySem.W.Frag} {H : Hp} {v : V} {d : PyData} (h : Val H v d) : ∃ t, TyX K H v t ∧ PySem.W.kitOne K t (.type "int") = some (intTy d) ∧ PySem.W.kitOne K t (.type "str") = some (strTy d) ∧ PySem.W.kitOne K t (.type "bool") = some (blTy d) := by
  cases h with
  | non => exact ⟨_, .base .non, kit_ty k_NoneType_int, kit_ty k_NoneType_str, kit_ty k_NoneType_bool⟩
  | bl b => exact ⟨_, .base (.bl b), kit_ty k_bool_int, kit_ty k_bool_str, kit_ty k_bool_bool⟩
  | int n => exact ⟨_, .base (.int n), kit_ty k_int_int, kit_ty k_int_str, kit_ty k_int_bool⟩
  | str z => exact ⟨_, .base (.str z), kit_ty k_str_int, kit_ty k_str_str, kit_ty k_str_bool⟩
  | lst l h => exact ⟨_, .base (.lst h), kit_ty k_list_int, kit_ty k_list_str, kit_ty k_list_bool⟩
  | tup l h => exact ⟨_, .base (.tup h), kit_ty k_tuple_int, kit_ty k_tuple_str, kit_ty k_tuple_bool⟩
  | tupI l h => exact ⟨_, .base (.tup h), kit_ty k_tuple_int, kit_ty k_tuple_str, kit_ty k_tuple_bool⟩
  | dct l h => exact ⟨_, .base (.dK h), kit_ty k_dict_int, kit_ty k_dict_str, kit_ty k_dict_bool⟩

/-- what the walk asks of the module's names -/
structure Txt (K : PySem.W.Frag) (mg : Str → Option Value) : Prop where
  isi : mg "isinstance" = none
  int : mg "int" = none
  str : mg "str" = none
  bool : mg "bool" = none
  abs : mg "abs" = none
  len : mg "len" = none
  list : mg "list" = none
  set : mg "set" = none
  sorted : mg "sorted" = none
  repr : mg "repr" = none
  range : mg "range" = none
  max : mg "max" = none
  min : mg "min" = none
  all : mg "all" = none
  sum : mg "sum" = none
  tuple : mg "tuple" = none
  long : ∃ t, mg "LEAST_TOO_LONG" = some (.int (10 ^ 200) t)
  alpha : ∃ t, mg "ALPHABET" = some (.str alpha t)
  mLet : ∃ t, mg "MAX_LETTERS" = some (.int 3 t)
  mText : ∃ t, mg "MAX_TEXT" = some (.int 4000 t)
  mRuns : ∃ t, mg "MAX_RUNS" = some (.int 200 t)
  mPow : ∃ t, mg "MAX_POWER" = some (.int 400 t)

theorem fine_line {z : Str} (h : Fine z) : z.length ≤ sizeLine := Nat.le_trans h.long (by decide)

/-! ### the program's judges -/
def spHas : Sp := fun vs H Q _ => ∃ (v : V) (d : PyData) (sg : Str) (m : Nat), vs = [v, .str sg, .int m] ∧ Val H v d ∧ Ok d ∧ Q (.bl (has sg m d)) H
section
variable {P : Program} {w : World} {K : PySem.W.Frag} {mg : Str → Option Value} {base : Heap}
theorem scHas : FnScope ["value", "signs", "most"] ["value", "signs", "most"] (defScope sHas) := ⟨rfl, rfl, rfl, by decide +kernel, rfl, by decide +kernel, by decide +kernel⟩
theorem ok_has {f : Addr} {fd : FuncData} (F : Fun K "has_only" "has_only" sHas f fd) (T : Txt K mg) : FnOk P w K mg base CX0 1 f fd ["value", "signs", "most"] spHas := by
  refine F.ok scHas (fun vs H Q E h => ?_) (fun cdv A outer s H vs Q E hr h => ?_)
  · obtain ⟨v, d, sg, m, rfl, _⟩ := h
    rfl
  · obtain ⟨v, d, sg, m, rfl, hv, hd, q⟩ := h
    refine ⟨_, pss_one (ps_ret (pe_and (pe_callB call_isi (by rfl) T.isi (by decide +kernel) (pa_cons (pv 0) (pa_cons (pe_bltn (v := .ty "str") (by rfl) T.str (by decide +kernel) rfl) pa_nil)))
      (pe_and (pe_cmpR op_le (pe_callB call_len_str (by rfl) T.len PySem.boot_len (pa_cons (pv 0) pa_nil)) (pv 2) (nomark _))
      (pe_one (pe_cmpR op_eq (pe_bm PySem.F.plainAttrs_str PySem.F.slot_str_strip PySem.F.type_str_strip mt_stripChars (pv 0) (pa_cons (pv 1) pa_nil)) pe_str (nomark _)))))), ?_⟩
    obtain ⟨t, ty, _, k, _⟩ := Val.ty (K := K) hv
    refine ⟨_, rfl, _, _, _, _, _, rfl, .ty "str", ty, k, strTy d, rfl, ?_⟩
    cases hv with
    | str z =>
      have hz := fine_line (show Fine z from hd)
      refine iteT ?_
      refine ⟨_, rfl, z, rfl, hz, _, rfl, _, _, rfl, rfl, _, rfl, ?_⟩
      have e1 : decide ((z.length : Int) ≤ (m : Int)) = decide (z.length ≤ m) := decide_eq_decide.mpr (by omega)
      rw [e1]
      have e0 : has sg m (.str z) = (decide (z.length ≤ m) && only z sg) := rfl
      rw [e0] at q
      by_cases hm : z.length ≤ m
      · rw [decide_eq_true hm] at q ⊢
        refine iteT ?_
        refine ⟨_, rfl, rfl, _, rfl, z, sg, rfl, rfl, hz, rfl, ?_⟩
        have e2 : decide (V.str (Txt.stripChars z sg) = V.str (Str.ofString "")) = only z sg := by
          rw [← strip_only]
          exact decide_eq_decide.mpr ⟨fun e => by injection e, fun e => by rw [e]; rfl⟩
        rw [e2]
        exact q
      · rw [decide_eq_false hm] at q ⊢
        exact iteF q
    | _ => exact iteF q

def spInt : Sp := fun vs H Q _ => ∃ (v : V) (d : PyData), vs = [v] ∧ Val H v d ∧ Q (.bl (isInt d)) H
theorem scInt : FnScope ["value"] ["value"] (defScope sInt) := ⟨rfl, rfl, rfl, by decide +kernel, rfl, by decide +kernel, by decide +kernel⟩
theorem isInt_abs (n : Int) : decide ((if n < 0 then -n else n) < 10 ^ 200) = isInt (.int n) := by
  show _ = decide (n.natAbs < 10 ^ 200)
  have e : ((10 ^ 200 : Nat) : Int) = 10 ^ 200 := by norm_cast
  rw [← e]
  generalize (10 ^ 200 : Nat) = M
  refine decide_eq_decide.mpr ?_
  split <;> omega
theorem ok_int {f : Addr} {fd : FuncData} (F : Fun K "is_integer" "is_integer" sInt f fd) (T : Txt K mg) : FnOk P w K mg base CX0 1 f fd ["value"] spInt := by
  refine F.ok scInt (fun vs H Q E h => ?_) (fun cdv A outer s H vs Q E hr h => ?_)
  · obtain ⟨v, d, rfl, _⟩ := h
    rfl
  · obtain ⟨v, d, rfl, hv, q⟩ := h
    obtain ⟨tl, hl⟩ := T.long
    refine ⟨_, pss_one (ps_ret (pe_and (pe_callB call_isi (by rfl) T.isi (by decide +kernel) (pa_cons (pv 0) (pa_cons (pe_bltn (v := .ty "int") (by rfl) T.int (by decide +kernel) rfl) pa_nil)))
      (pe_and (pe_not (pe_callB call_isi (by rfl) T.isi (by decide +kernel) (pa_cons (pv 0) (pa_cons (pe_bltn (v := .ty "bool") (by rfl) T.bool (by decide +kernel) rfl) pa_nil))))
      (pe_one (pe_cmpR op_lt (pe_callB call_abs (by rfl) T.abs (by decide +kernel) (pa_cons (pv 0) pa_nil)) (pe_glob (v := .int (10 ^ 200)) rfl hl ⟨_, rfl⟩) (nomark _)))))), ?_⟩
    obtain ⟨t, ty, k1, _, k3⟩ := Val.ty (K := K) hv
    refine ⟨_, rfl, _, _, _, _, _, rfl, .ty "int", ty, k1, intTy d, rfl, ?_⟩
    cases hv with
    | int n =>
      refine iteT ⟨_, rfl, _, _, _, _, _, rfl, .ty "bool", ty, k3, _, rfl, _, rfl, iteT ?_⟩
      refine ⟨_, rfl, n, rfl, _, _, rfl, rfl, ?_⟩
      show Q (.bl (decide ((if n < 0 then -n else n) < 10 ^ 200))) H
      rw [isInt_abs]
      exact q
    | bl b => exact iteT ⟨_, rfl, _, _, _, _, _, rfl, .ty "bool", ty, k3, _, rfl, _, rfl, iteF q⟩
    | _ => exact iteF q

end
/-- a def of the text, found under its name -/
structure Df (K : PySem.W.Frag) (mg : Str → Option Value) (x : Str) (st : Stmt) (ps : List Str) (f : Addr) (fd : FuncData) : Prop where
  F : Fun K x x st f fd
  m : mg x = some (.ref f)
  b : Binds K fd ps []

/-! ### rows of one-sign texts as data -/
abbrev onesD (l : List Nat) : List PyData := l.map fun c => PyData.str (one c)
theorem all_ones (K : PySem.W.Frag) (H : Hp) : ∀ l : List Nat, DpAll K H (ones l) (onesD l)
  | [] => .nil
  | c :: l => .cons (.str _) (all_ones K H l)
theorem eqv_ones : ∀ l m : List Nat, PyData.eqvAll (onesD l) (onesD m) = decide (l = m)
  | [], [] => rfl
  | [], _ :: _ => rfl
  | _ :: _, [] => rfl
  | c :: l, d :: m => by
    show ((one c == one d) && PyData.eqvAll (onesD l) (onesD m)) = _
    rw [eqv_ones l m]
    by_cases h : c = d
    · subst h
      simp
    · have e : (one c == one d) = false := beq_eq_false_iff_ne.mpr fun q => h (one_inj q)
      rw [e]
      simp [h]
theorem lay_all (l : List Nat) (h : ∀ c ∈ l, c < 128) : PyData.canLayAll0 (onesD l) = true := by
  induction l with
  | nil => rfl
  | cons c l ih =>
    have hc := h c List.mem_cons_self
    have e1 : PyData.canLay0 (.str (one c)) = true := by
      show (one c).cps.all (· < 0x110000) = true
      simp
      omega
    show (PyData.canLay0 (.str (one c)) && PyData.canLayAll0 (onesD l)) = true
    rw [ih fun d hd => h d (List.mem_cons_of_mem _ hd), e1]
    rfl
theorem deep_all (l : List Nat) : PyData.depthAll (onesD l) ≤ 1 := by
  induction l with
  | nil => decide
  | cons c l ih =>
    show max _ (PyData.depthAll (onesD l)) ≤ 1
    exact Nat.max_le.mpr ⟨(by show 0 ≤ 1; decide), ih⟩
theorem shaped_ones (l : List Nat) (h : ∀ c ∈ l, c < 128) : SeqAt.shaped (.list (onesD l)) = true := by
  unfold SeqAt.shaped
  rw [Bool.and_eq_true]
  refine ⟨lay_all l h, decide_eq_true ?_⟩
  show PyData.depthAll (onesD l) + 1 ≤ 64
  have := deep_all l
  omega

section
variable {P : Program} {w : World} {K : PySem.W.Frag} {mg : Str → Option Value} {base : Heap}
theorem scLetters : FnScope ["value"] ["value"] (defScope sLetters) := ⟨rfl, rfl, rfl, by decide +kernel, rfl, by decide +kernel, by decide +kernel⟩
def spLetters : Sp := fun vs H Q _ => ∃ (v : V) (d : PyData), vs = [v] ∧ Val H v d ∧ Ok d ∧ ∀ H', Same H H' → Q (.bl (letters d)) H'
theorem same_upd {H : Hp} {p : Addr} {o : HO} (h : H p = none) : Same H (upd H p o) := fun b u e => by
  rw [upd_ne (ne_of_none e h)]
  exact e
theorem ok_letters {f fH : Addr} {fd fdH : FuncData} (F : Fun K "is_letters" "is_letters" sLetters f fd) (T : Txt K mg) (DH : Df K mg "has_only" sHas ["value", "signs", "most"] fH fdH) :
    FnOk P w K mg base CX0 2 f fd ["value"] spLetters := by
  have G := ok_has (P := P) (w := w) (base := base) DH.F T
  refine F.ok scLetters (fun vs H Q E h => ?_) (fun cdv A outer s H vs Q E hr h => ?_)
  · obtain ⟨v, d, rfl, _⟩ := h
    rfl
  · obtain ⟨v, d, rfl, hv, hd, q⟩ := h
    obtain ⟨ta, ha⟩ := T.alpha
    obtain ⟨tn, hn⟩ := T.mLet
    refine ⟨_, pss_one (ps_ret (pe_and (pe_call G hr (by rfl) DH.m DH.F.kp DH.b .nil pass0 (pa_cons (pv 0) (pa_cons (pe_glob (v := .str alpha) rfl ha ⟨_, rfl⟩) (pa_cons (pe_glob (v := .int 3) rfl hn ⟨_, rfl⟩) pa_nil))))
      (pe_and (pe_cmpR op_ne (pv 0) pe_str (nomark _))
      (pe_one (pe_cmpR (op_eqD hr.units) (pe_callTy (cr_listTx rfl) (by rfl) T.list (by decide +kernel) (pa_cons (pv 0) pa_nil))
        (pe_callB (cr_sortTx rfl) (by rfl) T.sorted (by decide +kernel) (pa_cons (pe_callTy (cr_setTx rfl) (by rfl) T.set (by decide +kernel) (pa_cons (pv 0) pa_nil)) pa_nil)) (nomark _)))))), ?_⟩
    refine ⟨_, rfl, v, d, alpha, 3, rfl, hv, hd, _, rfl, ?_⟩
    cases hv with
    | str z =>
      have hz : Fine z := hd
      have e0 : letters (.str z) = (has alpha 3 (.str z) && decide (z ≠ Str.empty) && rise z) := rfl
      rw [e0] at q
      cases hb : has alpha 3 (.str z) with
      | true =>
        rw [hb] at q
        refine iteT ⟨_, rfl, rfl, ?_⟩
        have e : (!decide (V.str z = V.str (Str.ofString ""))) = decide (z ≠ Str.empty) := by
          rw [← decide_not]
          exact decide_eq_decide.mpr ⟨fun h e => h (by rw [e]; rfl), fun h e => h (by injection e)⟩
        refine ⟨_, rfl, ?_⟩
        rw [e]
        by_cases hne : z ≠ Str.empty
        · rw [decide_eq_true hne] at q ⊢
          refine iteT ?_
          refine ⟨_, rfl, z, rfl, fine_line hz, fun p1 n1 => ?_⟩
          refine ⟨_, rfl, z, rfl, hz.few, fun p2 n2 => ?_⟩
          refine ⟨p2, cds z, rfl, upd_same, hz.few, fun p3 n3 => ?_⟩
          have s1 : Same H (upd H p1 (.lst (ones (cds z)))) := same_upd n1
          have s2 := same_upd (o := TO w p2 (met [] (cds z))) n2
          have s3 := same_upd (o := .lst (ones (ups (cds z)))) n3
          have h1 := s3 _ _ (s2 _ _ (upd_same (H := H) (a := p1) (o := .lst (ones (cds z)))))
          refine ⟨.list (onesD (cds z)), .list (onesD (ups (cds z))), .lst (SqL.of h1) (all_ones _ _ _), .lst (SqL.of upd_same) (all_ones _ _ _), shaped_ones _ hz.plain, shaped_ones _ (fun c hc => hz.plain c ((ups_mem _ _).mp hc)), ?_⟩
          have e2 : PyData.eqv (.list (onesD (cds z))) (.list (onesD (ups (cds z)))) = rise z := eqv_ones _ _
          rw [e2]
          exact q _ ((s1.trans s2).trans s3)
        · have hne' : decide (z ≠ Str.empty) = false := decide_eq_false hne
          rw [hne'] at q ⊢
          exact iteF (q _ (Same.refl H))
      | false =>
        rw [hb] at q
        exact iteF (q _ (Same.refl H))
    | _ => exact iteF (q _ (Same.refl H))

/-! ### the law's drawer -/
/-- a drawer: three ints -/
def Cup (H : Hp) (c : Addr) : Prop := ∃ a0 a1 a2 : Int, H c = some (.lst [.int a0, .int a1, .int a2])
/-- all but what stands at c stays -/
def But (c : Addr) (H H' : Hp) : Prop := ∀ b o, b ≠ c → H b = some o → H' b = some o
theorem But.refl (c : Addr) (H : Hp) : But c H H := fun _ _ _ e => e
theorem But.trans {c : Addr} {H H1 H2 : Hp} (a : But c H H1) (b : But c H1 H2) : But c H H2 := fun x o n e => b x o n (a x o n e)
theorem But.of {c : Addr} {H H' : Hp} (s : Same H H') : But c H H' := fun b o _ e => s b o e
theorem But.put {c : Addr} {H : Hp} {o : HO} : But c H (upd H c o) := fun b u n e => by rw [upd_ne n]; exact e

def spCup (K : PySem.W.Frag) : Sp := fun vs H Q _ => ∃ (a : Addr) (ns : List Int) (k : Nat), vs = [.ref a, .int k] ∧ SqL K H a (ns.map V.int) ∧ ns.length ≤ 63 ∧ k ≤ 100 ∧ ∀ p H', H p = none → Same H H' → Cup H' p → Q (.ref p) H'
theorem scCup : FnScope ["_law_script", "_law_at", "_law_cell", "_law_great", "_law_blend"] ["_law_script", "_law_at"] (defScope sCup) := ⟨rfl, rfl, rfl, by decide +kernel, rfl, by decide +kernel, by decide +kernel⟩
theorem ok_cup {f : Addr} {fd : FuncData} (F : Fun K "_law_cup" "_law_cup" sCup f fd) (T : Txt K mg) : FnOk P w K mg base CX0 1 f fd ["_law_script", "_law_at"] (spCup K) := by
  refine F.ok scCup (fun vs H Q E h => ?_) (fun cdv A outer s H vs Q E hr h => ?_)
  · obtain ⟨a, ns, k, rfl, _⟩ := h
    rfl
  · obtain ⟨a, ns, k, rfl, hS, hlen, hk, q⟩ := h
    refine ⟨_, pss_cons (ps_set (i := 2) scCup.nd rfl (Or.inl rfl) (pe_ifExp (pt_cmpR op_lt (pv 1) (pe_callB call_len (by rfl) T.len PySem.boot_len (pa_cons (pv 0) pa_nil)) (nomark _))
        (pe_ix ix_list (pv 0) (pv 1) (fun _ _ => rfl)) (pe_op op_add (pe_op op_mul pe_int (pv 1)) pe_int)))
      (pss_cons (ps_set (i := 3) scCup.nd rfl (Or.inl rfl) (pe_op op_modN (pe_callTy call_int1 (by rfl) T.int (by decide +kernel) (pa_cons (pe_callB call_abs (by rfl) T.abs (by decide +kernel) (pa_cons (pv 2) pa_nil)) pa_nil))
        (pe_op op_powW (pe_op op_pow pe_int pe_int) pe_int)))
      (pss_cons (ps_set (i := 4) scCup.nd rfl (Or.inl rfl) (pe_op op_add (pe_op op_add (pe_op op_add
          (pe_op op_mul (pe_op op_modN (pe_callTy call_int1 (by rfl) T.int (by decide +kernel) (pa_cons (pv 3) pa_nil)) pe_int) pe_int) (pe_op op_mul pe_int (pv 1)))
          (pe_op op_mul pe_int (pe_callTy call_int1 (by rfl) T.int (by decide +kernel) (pa_cons (pe_cmpR op_lt (pv 2) pe_int (nomark _)) pa_nil)))) pe_int))
      (pss_one (ps_ret (pe_lst (pa_cons (pe_callB (call_max2 rfl) (by rfl) T.max (by decide +kernel) (pa_cons pe_int (pa_cons (pe_op op_sub (pv 3) (pe_op op_pow pe_int pe_int)) pa_nil)))
        (pa_cons (pe_op op_modN (pe_callTy call_int1 (by rfl) T.int (by decide +kernel) (pa_cons (pv 4) pa_nil)) pe_int) (pa_cons pe_int pa_nil)))))))), ?_⟩
    refine ⟨_, rfl, _, rfl, _, ns.length, rfl, .inl ⟨_, hS, by rw [List.length_map]⟩, _, _, rfl, rfl, _, rfl, ?_⟩
    refine ite2 (fun hc => ?_) (fun _ => ?_)
    · have hk2 : k < ns.length := by
        have := of_decide_eq_true hc
        omega
      refine ⟨_, rfl, _, rfl, a, _, _, .int ns[k], rfl, rfl, hS, atI_nat (by rw [List.getElem?_map, List.getElem?_eq_getElem hk2]; rfl), ?_⟩
      refine ⟨_, rfl, _, rfl, .inl ⟨_, rfl, _, _, rfl, rfl, ⟨by decide, by decide, by decide⟩, _, _, rfl, rfl, ⟨by decide, by decide +kernel⟩, _, _, rfl, rfl, (show (((10 : Int) ^ Int.toNat 61) ^ Int.toNat 11) ≠ 0 by decide +kernel), ?_⟩⟩
      refine ⟨_, rfl, .inl ⟨_, rfl, _, _, rfl, rfl, (show (2147483179 : Int) ≠ 0 by decide), _, _, rfl, rfl, .inr ⟨by decide, by decide⟩, _, rfl, _, _, rfl, rfl, .inl ⟨by decide, by decide⟩, _, _, rfl, rfl, _, rfl, _, _, rfl, rfl,
        .inr ⟨_, rfl, _, _, rfl, rfl, .inl ⟨by decide, by decide⟩, _, _, rfl, rfl, _, _, rfl, rfl, ?_⟩⟩⟩
      refine ⟨_, rfl, _, _, rfl, rfl, ⟨by decide, by decide, by decide⟩, _, _, rfl, rfl, _, _, rfl, _, rfl, .inl ⟨_, rfl, _, _, rfl, rfl, (show (2305843009213693907 : Int) ≠ 0 by decide), by show 3 ≤ sizeLine; decide, fun p hp => ?_⟩⟩
      exact q p _ hp (same_upd hp) ⟨_, _, _, upd_same⟩
    · refine ⟨_, rfl, _, _, rfl, rfl, .inl ⟨by decide, by decide⟩, _, _, rfl, rfl, ?_⟩
      refine ⟨_, rfl, _, rfl, .inl ⟨_, rfl, _, _, rfl, rfl, ⟨by decide, by decide, by decide⟩, _, _, rfl, rfl, ⟨by decide, by decide +kernel⟩, _, _, rfl, rfl, (show (((10 : Int) ^ Int.toNat 61) ^ Int.toNat 11) ≠ 0 by decide +kernel), ?_⟩⟩
      refine ⟨_, rfl, .inl ⟨_, rfl, _, _, rfl, rfl, (show (2147483179 : Int) ≠ 0 by decide), _, _, rfl, rfl, .inr ⟨by decide, by decide⟩, _, rfl, _, _, rfl, rfl, .inl ⟨by decide, by decide⟩, _, _, rfl, rfl, _, rfl, _, _, rfl, rfl,
        .inr ⟨_, rfl, _, _, rfl, rfl, .inl ⟨by decide, by decide⟩, _, _, rfl, rfl, _, _, rfl, rfl, ?_⟩⟩⟩
      refine ⟨_, rfl, _, _, rfl, rfl, ⟨by decide, by decide, by decide⟩, _, _, rfl, rfl, _, _, rfl, _, rfl, .inl ⟨_, rfl, _, _, rfl, rfl, (show (2305843009213693907 : Int) ≠ 0 by decide), by show 3 ≤ sizeLine; decide, fun p hp => ?_⟩⟩
      exact q p _ hp (same_upd hp) ⟨_, _, _, upd_same⟩

def spBit : Sp := fun vs H Q _ => ∃ (c : Addr) (m : Int), vs = [.ref c, .int m] ∧ Cup H c ∧ 0 < m ∧ m.natAbs < 2 ^ 9000 ∧ ∀ r H', 0 ≤ r → r < m → Cup H' c → But c H H' → Q (.int r) H'
theorem scBit : FnScope ["_law_cup_here", "_law_much", "_law_found", "_law_first", "_law_later"] ["_law_cup_here", "_law_much"] (defScope sBit) := ⟨rfl, rfl, rfl, by decide +kernel, rfl, by decide +kernel, by decide +kernel⟩
theorem ok_bit {f : Addr} {fd : FuncData} (F : Fun K "_law_bit" "_law_bit" sBit f fd) (T : Txt K mg) : FnOk P w K mg base CX0 1 f fd ["_law_cup_here", "_law_much"] spBit := by
  refine F.ok scBit (fun vs H Q E h => ?_) (fun cdv A outer s H vs Q E hr h => ?_)
  · obtain ⟨c, m, rfl, _⟩ := h
    rfl
  · obtain ⟨c, m, rfl, ⟨a0, a1, a2, hc⟩, hm, hm2, q⟩ := h
    refine ⟨_, pss_cons (ps_if (pt_cmpR op_gt (pe_ix ix_list (pv 0) pe_int (fun _ _ => rfl)) pe_int (nomark _))
        (pss_cons (ps_set (i := 2) scBit.nd rfl (Or.inl rfl) (pe_op op_modN (pe_callTy call_int1 (by rfl) T.int (by decide +kernel) (pa_cons (pe_ix ix_list (pv 0) pe_int (fun _ _ => rfl)) pa_nil)) (pv 1)))
        (pss_cons (ps_asg (pe_op op_fdivW (pe_ix ix_list (pv 0) pe_int (fun _ _ => rfl)) (pv 1)) (pg_sub (pv 0) pe_int set_list))
        (pss_one (ps_ret (pv 2))))) pss_nil)
      (pss_cons (ps_asg (pe_op op_add (pe_ix ix_list (pv 0) pe_int (fun _ _ => rfl)) pe_int) (pg_sub (pv 0) pe_int set_list))
      (pss_cons (ps_set (i := 3) scBit.nd rfl (Or.inl rfl) (pe_op op_modN (pe_callTy call_int1 (by rfl) T.int (by decide +kernel) (pa_cons (pe_op op_add (pe_ix ix_list (pv 0) pe_int (fun _ _ => rfl))
          (pe_op op_mul pe_int (pe_ix ix_list (pv 0) pe_int (fun _ _ => rfl)))) pa_nil)) pe_int))
      (pss_cons (ps_set (i := 4) scBit.nd rfl (Or.inl rfl) (pe_op op_add (pe_op op_mul (pe_op op_modN (pe_callTy call_int1 (by rfl) T.int (by decide +kernel) (pa_cons (pe_op op_mul (pv 3) (pv 3)) pa_nil)) pe_int) (pv 3))
          (pe_op op_mul pe_int (pe_ix ix_list (pv 0) pe_int (fun _ _ => rfl)))))
      (pss_one (ps_ret (pe_op op_modN (pe_callTy call_int1 (by rfl) T.int (by decide +kernel) (pa_cons (pe_op op_fdivN (pe_op op_modN (pe_callTy call_int1 (by rfl) T.int (by decide +kernel) (pa_cons (pv 4) pa_nil)) pe_int) pe_int) pa_nil)) (pv 1))))))), ?_⟩
    have at0 : ∀ {x y z : V}, atI [x, y, z] (0 : Int) = some x := rfl
    have at1 : ∀ {x y z : V}, atI [x, y, z] (1 : Int) = some y := rfl
    have at2 : ∀ {x y z : V}, atI [x, y, z] (2 : Int) = some z := rfl
    have rest : ∀ i : Int, 0 ≤ i.fmod m ∧ i.fmod m < m := fun i => by
      rw [Int.fmod_eq_emod_of_nonneg i (Int.le_of_lt hm)]
      exact ⟨Int.emod_nonneg i (Int.ne_of_gt hm), Int.emod_lt_of_pos i hm⟩
    refine ⟨_, rfl, c, _, _, _, rfl, rfl, SqL.of hc, at0, _, _, rfl, rfl, _, rfl, ?_⟩
    refine ite2 (fun _ => ?_) (fun _ => ?_)
    · refine ⟨_, rfl, c, _, _, _, rfl, rfl, SqL.of hc, at0, .inl ⟨_, rfl, _, rfl, _, _, rfl, rfl, (Int.ne_of_gt hm), ?_⟩⟩
      refine ⟨_, rfl, c, _, _, _, rfl, rfl, SqL.of hc, at0, _, rfl, _, _, rfl, rfl, wide_div hm hm2 (by decide) (by decide), ?_⟩
      refine ⟨_, rfl, c, _, _, 0, rfl, rfl, hc, rfl, ?_⟩
      exact ⟨_, rfl, q _ _ (rest _).1 (rest _).2 ⟨_, _, _, upd_same⟩ But.put⟩
    · refine ⟨_, rfl, c, _, _, _, rfl, rfl, SqL.of hc, at2, _, _, rfl, rfl, _, rfl, c, _, _, 2, rfl, rfl, hc, rfl, ?_⟩
      have hc2 : (upd H c (.lst ([.int a0, .int a1, .int a2].set 2 (.int (a2 + 1))))) c = some (.lst [.int a0, .int a1, .int (a2 + 1)]) := upd_same
      refine ⟨_, rfl, c, _, _, _, rfl, rfl, SqL.of hc2, at1, _, rfl, c, _, _, _, rfl, rfl, SqL.of hc2, at2, _, _, rfl, rfl, .inl ⟨by decide, by decide⟩, _, _, rfl, rfl, .inl ⟨_, rfl, _, _, rfl, rfl, (show (2305843009213693951 : Int) ≠ 0 by decide), ?_⟩⟩
      have f1 := Int.emod_nonneg (a1 + 1000541 * (a2 + 1)) (b := 2305843009213693951) (by decide)
      have f2 := Int.emod_lt_of_pos (a1 + 1000541 * (a2 + 1)) (b := 2305843009213693951) (by decide)
      rw [← Int.fmod_eq_emod_of_nonneg (a1 + 1000541 * (a2 + 1)) (b := 2305843009213693951) (by decide)] at f1 f2
      have f3 : -(2 ^ 64 : Int) < Int.fmod (a1 + 1000541 * (a2 + 1)) 2305843009213693951 ∧ Int.fmod (a1 + 1000541 * (a2 + 1)) 2305843009213693951 < 2 ^ 64 :=
        ⟨Int.lt_of_lt_of_le (by decide) f1, Int.lt_trans f2 (by decide)⟩
      refine ⟨_, rfl, _, rfl, _, _, rfl, rfl, .inl f3, .inl ⟨_, rfl, _, _, rfl, rfl, (show (2305843009213693921 : Int) ≠ 0 by decide), _, rfl, _, _, rfl, rfl, .inr f3, _, rfl, c, _, _, _, rfl, rfl, SqL.of hc2, at2,
        _, _, rfl, rfl, .inl ⟨by decide, by decide⟩, _, _, rfl, rfl, ?_⟩⟩
      refine ⟨_, rfl, .inl ⟨_, rfl, _, _, rfl, rfl, (show (2305843009213693907 : Int) ≠ 0 by decide), _, _, rfl, rfl, (show (16384 : Int) ≠ 0 ∧ (16384 : Int).natAbs < 1073741824 by decide), .inl ⟨_, rfl, _, rfl, _, _, rfl, rfl, (Int.ne_of_gt hm), ?_⟩⟩⟩
      exact q _ _ (rest _).1 (rest _).2 ⟨_, _, _, hc2⟩ But.put
/-! ### drawing -/
theorem scPick : FnScope ["_law_cup_here", "_law_items"] ["_law_cup_here", "_law_items"] (defScope sPick) := ⟨rfl, rfl, rfl, by decide +kernel, rfl, by decide +kernel, by decide +kernel⟩
def spPick : Sp := fun vs H Q _ => ∃ (c : Addr), Cup H c ∧
  ((∃ (p : Addr) (xs : List V), vs = [.ref c, .ref p] ∧ p ≠ c ∧ H p = some (.lst xs) ∧ 0 < xs.length ∧ xs.length < 100 ∧ ∀ x H', x ∈ xs → Cup H' c → But c H H' → Q x H') ∨
   (∃ z : Str, vs = [.ref c, .str z] ∧ 0 < z.length ∧ z.length < 100 ∧ ∀ s H', s ∈ cds z → Cup H' c → But c H H' → Q (.str (one s)) H'))
theorem ok_pick {f fB : Addr} {fd fdB : FuncData} (F : Fun K "_law_pick" "_law_pick" sPick f fd) (T : Txt K mg) (DB : Df K mg "_law_bit" sBit ["_law_cup_here", "_law_much"] fB fdB) :
    FnOk P w K mg base CX0 2 f fd ["_law_cup_here", "_law_items"] spPick := by
  have G := ok_bit (P := P) (w := w) (base := base) DB.F T
  refine F.ok scPick (fun vs H Q E h => ?_) (fun cdv A outer s H vs Q E hr h => ?_)
  · obtain ⟨c, _, h⟩ := h
    rcases h with ⟨p, xs, rfl, _⟩ | ⟨z, rfl, _⟩ <;> rfl
  · obtain ⟨c, hc, h⟩ := h
    refine ⟨_, pss_one (ps_ret (pe_ix ix_seq (pv 1) (pe_call G hr (by rfl) DB.m DB.F.kp DB.b .nil pass0 (pa_cons (pv 0) (pa_cons (pe_callB call_len (by rfl) T.len PySem.boot_len (pa_cons (pv 1) pa_nil)) pa_nil))) (fun _ _ => rfl))), ?_⟩
    have small : ∀ n : Nat, n < 100 → (n : Int).natAbs < 2 ^ 9000 := fun n hn => Nat.lt_of_lt_of_le (show (n : Int).natAbs < 2 ^ 7 by omega) (Nat.pow_le_pow_right (by decide) (by decide))
    rcases h with ⟨p, xs, rfl, hpc, hp, h0, h1, q⟩ | ⟨z, rfl, h0, h1, q⟩
    · refine ⟨_, rfl, _, rfl, _, rfl, _, xs.length, rfl, .inl ⟨_, SqL.of hp, rfl⟩, c, xs.length, rfl, hc, by omega, small _ h1, fun r H' r0 r1 hc' but => ?_⟩
      obtain ⟨n, rfl⟩ := Int.eq_ofNat_of_zero_le r0
      have hn : n < xs.length := by omega
      exact .inl ⟨p, xs, _, xs[n], rfl, rfl, SqL.of (but _ _ hpc hp), atI_nat (List.getElem?_eq_getElem hn), q _ _ (List.getElem_mem hn) hc' but⟩
    · have hl : z.length ≤ sizeLine := Nat.le_trans (Nat.le_of_lt h1) (by decide)
      refine ⟨_, rfl, _, rfl, _, rfl, _, z.length, rfl, ⟨hl, rfl⟩, c, z.length, rfl, hc, by omega, small _ h1, fun r H' r0 r1 hc' but => ?_⟩
      obtain ⟨n, rfl⟩ := Int.eq_ofNat_of_zero_le r0
      have hn : n < (cds z).length := by rw [cds_len]; omega
      exact .inr (.inr ⟨z, _, (cds z)[n], rfl, rfl, hl, atI_nat (List.getElem?_eq_getElem hn), q _ _ (List.getElem_mem hn) hc' but⟩)

def Signs (z : Str) : Prop := z = "ab" ∨ z = "xy" ∨ z = "a" ∨ z = "abc"
def spSigns : Sp := fun vs H Q _ => ∃ (c : Addr), vs = [.ref c] ∧ Cup H c ∧ ∀ z H', Signs z → Cup H' c → But c H H' → Q (.str z) H'
theorem scSigns : FnScope ["_law_cup_here"] ["_law_cup_here"] (defScope sSigns) := ⟨rfl, rfl, rfl, by decide +kernel, rfl, by decide +kernel, by decide +kernel⟩
theorem Cup.same {H H' : Hp} {c : Addr} (s : Same H H') (h : Cup H c) : Cup H' c := let ⟨a, b, d, e⟩ := h; ⟨a, b, d, s _ _ e⟩
theorem Cup.ne {H : Hp} {c p : Addr} (h : Cup H c) (n : H p = none) : p ≠ c := by
  obtain ⟨a, b, d, e⟩ := h
  exact (ne_of_none e n).symm
theorem ok_signs {f fB fP : Addr} {fd fdB fdP : FuncData} (F : Fun K "_law_signs" "_law_signs" sSigns f fd) (T : Txt K mg) (DB : Df K mg "_law_bit" sBit ["_law_cup_here", "_law_much"] fB fdB)
    (DP : Df K mg "_law_pick" sPick ["_law_cup_here", "_law_items"] fP fdP) : FnOk P w K mg base CX0 3 f fd ["_law_cup_here"] spSigns := by
  have G := ok_pick (P := P) (w := w) (base := base) DP.F T DB
  refine F.ok scSigns (fun vs H Q E h => ?_) (fun cdv A outer s H vs Q E hr h => ?_)
  · obtain ⟨c, rfl, _⟩ := h
    rfl
  · obtain ⟨c, rfl, hc, q⟩ := h
    refine ⟨_, pss_one (ps_ret (pe_call G hr (by rfl) DP.m DP.F.kp DP.b .nil pass0 (pa_cons (pv 0) (pa_cons (pe_lst (pa_cons pe_str (pa_cons pe_str (pa_cons pe_str (pa_cons pe_str (pa_cons pe_str (pa_cons pe_str pa_nil))))))) pa_nil)))), ?_⟩
    refine ⟨_, rfl, by show 6 ≤ sizeLine; decide, fun p np => ⟨c, hc.same (same_upd np), .inl ⟨p, _, rfl, hc.ne np, upd_same, by decide, by decide, fun x H' hx hc' but => ?_⟩⟩⟩
    have b2 : But c H H' := (But.of (same_upd np)).trans but
    simp only [List.mem_cons, List.not_mem_nil, or_false] at hx
    rcases hx with rfl | rfl | rfl | rfl | rfl | rfl
    · exact q _ _ (.inl rfl) hc' b2
    · exact q _ _ (.inl rfl) hc' b2
    · exact q _ _ (.inl rfl) hc' b2
    · exact q _ _ (.inr (.inl rfl)) hc' b2
    · exact q _ _ (.inr (.inr (.inl rfl))) hc' b2
    · exact q _ _ (.inr (.inr (.inr rfl))) hc' b2
end
end K4

set_option Elab.async false
set_option linter.all false
set_option maxRecDepth 100000
set_option maxHeartbeats 3200000
/-! a * b, ~a and the like by an own operator of a class of the text -/
namespace Ow
open PySem PySem.Spec PyProof.Rows L2
theorem no_ni {v : V} {u : Value} (r : RelV v u) : u ≠ .notImplemented := by
  rintro rfl
  cases v <;> first | (obtain ⟨_, r⟩ := r; exact Value.noConfusion r) | exact Value.noConfusion r
section
variable {X : Cx} {CX : CXT} {C f : Addr} {fd : FuncData} {ps : List Str} {sp : Sp} {E : XK} {k : Nat} {op : Operator}
/-- both of the class at C: what the operator's def promises -/
def rOwn (C : Addr) (sp : Sp) (E : XK) : R2 := fun x y H Q => ∃ a b dx dy fs gs, x = .ref a ∧ y = .ref b ∧ H a = some (.ins C dx fs) ∧ H b = some (.ins C dy gs) ∧ sp [.ref a, .ref b] H Q E
/-- a call of such a def from where the operator stands -/
theorem own_call (F : FnOk X.prog X.w X.K X.mg X.base CX k f fd ps sp) (hr : Room k X.A) (hb : Binds X.K fd ps []) (hx : Passes CX X E) {pins : List (Addr × Obj)} {s : Shared} {σ : L2.St} {H : Hp} {Q : VK} {us : List Value} {vs : List V}
    (I : Inv X pins σ H s) (r : Vals vs us) (h : sp vs H Q E) : wpAny (model X.prog X.w) X.A (call (.ref f) us) (EP X pins σ Q) X.xe s := by
  have hl := F.len _ _ _ _ h
  refine wpAny_call (codeAny_mono (F.run X.A X.stack s H ⟨us, []⟩ us vs Q E hr I.env0 (by
    have := hb s us I.kIn (by rw [List.append_nil, ← r.length]; exact hl)
    simpa using this) r h) fun r s' hq => ?_)
  cases r with
  | error e => exact hx pins σ H s e s' I hq
  | ok fl =>
    cases fl with
    | ret w => exact I.after hq
    | next => exact False.elim hq
    | brk => exact False.elim hq
    | cont => exact False.elim hq
theorem op_own (F : FnOk X.prog X.w X.K X.mg X.base CX k f fd ps sp) (hr : Room k X.A) (hc : PySem.W.selfFirst X.K C = true) (hs : PySem.W.findIn X.K (.ref C) (PySem.dunder op.info.2) = some (some (.ref f))) (hf : PySem.W.isFn X.K (.ref f) = true)
    (hb : Binds X.K fd ps []) (hx : Passes CX X E) : OpR X (binaryOp op) (rOwn C sp E) := by
  intro pins s σ H x y u v Q I rx ry hq
  obtain ⟨a, b, dx, dy, fs, gs, rfl, rfl, ha, hb', h⟩ := hq
  cases rx
  cases ry
  obtain ⟨mA, J, _⟩ := ins_get I.hok ha
  obtain ⟨mB, J', _⟩ := ins_get I.hok hb'
  obtain ⟨od, J, _⟩ := J.look
  obtain ⟨od', J', _⟩ := J'.look
  obtain ⟨m, hF⟩ := I.fr
  refine PySem.W.binop_K hF I.ok.mod.kin J J'.type hc hs hf ?_
  refine wpAny_mono (own_call F hr hb hx I (vs := [V.ref a, V.ref b]) (.cons rfl (.cons rfl .nil)) h) (fun w s' z => ?_) fun _ _ e => e
  obtain ⟨v, H', I', rv, q⟩ := z
  have := no_ni rv
  cases w <;> first | exact absurd rfl this | exact ⟨v, H', I', rv, q⟩
/-- a op v, v of a built-in type (an own operator that refuses such) -/
def rOwnT (K : PySem.W.Frag) (C : Addr) (T : String) (sp : Sp) (E : XK) : R2 := fun x y H Q => ∃ a dx fs, x = .ref a ∧ H a = some (.ins C dx fs) ∧ (∀ u, RelV y u → typeOf u = pure (.type T)) ∧ sp [.ref a, y] H Q E
theorem op_ownT {T : String} {fo ro rc : Option Value} (F : FnOk X.prog X.w X.K X.mg X.base CX k f fd ps sp) (hr : Room k X.A) (hc : PySem.W.selfFirst X.K C = true) (hs : PySem.W.findIn X.K (.ref C) (PySem.dunder op.info.2) = some (some (.ref f))) (hf : PySem.W.isFn X.K (.ref f) = true)
    (hrc : PySem.W.findIn X.K (.ref C) (dunderR op.info.2) = some rc) (hp : rc = none ∨ ∃ g : Addr, rc = some (.ref g)) (h1 : PySem.W.findIn X.K (.type T) (PySem.dunder op.info.2) = some fo) (h2 : PySem.W.findIn X.K (.type T) (dunderR op.info.2) = some ro)
    (hsub : PySem.W.subIn X.K (.type T) (.ref C) = some false) (hb : Binds X.K fd ps []) (hx : Passes CX X E) : OpR X (binaryOp op) (rOwnT X.K C T sp E) := by
  intro pins s σ H x y u v Q I rx ry hq
  obtain ⟨a, dx, fs, rfl, ha, ht, h⟩ := hq
  cases rx
  obtain ⟨mA, J, _⟩ := ins_get I.hok ha
  obtain ⟨od, J, _⟩ := J.look
  obtain ⟨m, hF⟩ := I.fr
  refine PySem.W.ksp_binT hF I.ok.mod.kin J (ht _ ry) hc hs hf hrc hp h1 h2 hsub ?_
  refine wpAny_mono (own_call F hr hb hx I (vs := [V.ref a, y]) (.cons rfl (.cons ry .nil)) h) (fun w s' z => ?_) fun _ _ e => e
  obtain ⟨v, H', I', rv, q⟩ := z
  have := no_ni rv
  cases w <;> first | exact absurd rfl this | exact ⟨v, H', I', rv, q⟩
/-- ~a, -a by the text's own operator -/
def rOwn1 (C : Addr) (sp : Sp) (E : XK) : V → Hp → VK → Prop := fun x H Q => ∃ a dx fs, x = .ref a ∧ H a = some (.ins C dx fs) ∧ sp [.ref a] H Q E
theorem un_own (F : FnOk X.prog X.w X.K X.mg X.base CX k f fd ps sp) (hr : Room k X.A) (hs : PySem.W.findIn X.K (.ref C) "__invert__" = some (some (.ref f))) (hf : PySem.W.isFn X.K (.ref f) = true)
    (hb : Binds X.K fd ps []) (hx : Passes CX X E) : UnR X (unaryOp .Invert) (rOwn1 C sp E) := by
  intro pins s σ H x u Q I rx hq
  obtain ⟨a, dx, fs, rfl, ha, h⟩ := hq
  cases rx
  obtain ⟨mA, J, _⟩ := ins_get I.hok ha
  obtain ⟨od, J, _⟩ := J.look
  obtain ⟨m, hF⟩ := I.fr
  exact PySem.W.ksp_inv hF I.ok.mod.kin J hs hf (own_call F hr hb hx I (vs := [V.ref a]) (.cons rfl .nil) h)
/-- the same call one step further within -/
theorem own_call1 {A : Around} (hA : A.frames = X.A.frames) (F : FnOk X.prog X.w X.K X.mg X.base CX k f fd ps sp) (hr : Room k A) (hb : Binds X.K fd ps []) (hx : Passes CX X E) {pins : List (Addr × Obj)} {s : Shared} {σ : L2.St} {H : Hp} {Q : VK} {us : List Value} {vs : List V}
    (I : Inv X pins σ H s) (r : Vals vs us) (h : sp vs H Q E) : wpAny (model X.prog X.w) A (call (.ref f) us) (EP X pins σ Q) X.xe s := by
  have hl := F.len _ _ _ _ h
  have e0 : Env0 X.prog X.w X.K X.mg X.base A X.stack s H := by
    have e := I.env0
    exact ⟨by rw [hA]; exact e.frames, e.mod, e.bs, e.bsz, e.funs, e.frf, e.hok, e.bare⟩
  refine wpAny_call (codeAny_mono (F.run A X.stack s H ⟨us, []⟩ us vs Q E hr e0 (by
    have := hb s us I.kIn (by rw [List.append_nil, ← r.length]; exact hl)
    simpa using this) r h) fun r s' hq => ?_)
  cases r with
  | error e => exact hx pins σ H s e s' I hq
  | ok fl =>
    cases fl with
    | ret w => exact I.after hq
    | next => exact False.elim hq
    | brk => exact False.elim hq
    | cont => exact False.elim hq
/-- a == b, both of the class C, by its own __eq__, whatever it answers -/
theorem eq_own (F : FnOk X.prog X.w X.K X.mg X.base CX k f fd ps sp) (hr : Room k X.A) (hn : PySem.W.notFirst X.K C (.ref C) = true) (hs : PySem.W.findIn X.K (.ref C) "__eq__" = some (some (.ref f))) (hf : PySem.W.isFn X.K (.ref f) = true)
    (hb : Binds X.K fd ps []) (hx : Passes CX X E) : OpR X (compareOp .Eq) (rOwn C sp E) := by
  intro pins s σ H x y u v Q I rx ry hq
  obtain ⟨a, b, dx, dy, fs, gs, rfl, rfl, ha, hb', h⟩ := hq
  cases rx
  cases ry
  obtain ⟨mA, J, _⟩ := ins_get I.hok ha
  obtain ⟨mB, J', _⟩ := ins_get I.hok hb'
  obtain ⟨od, J, _⟩ := J.look
  obtain ⟨od', J', _⟩ := J'.look
  obtain ⟨m, hF⟩ := I.fr
  show wpAny (model X.prog X.w) X.A (richCompare .Eq (.ref a) (.ref b)) (EP X pins σ Q) X.xe s
  refine PySem.W.cmp_K (op := .Eq) (tb := .ref C) hr.units0 hF I.ok.mod.kin J J'.type hn hs hf ?_
  refine wpAny_mono (own_call F hr hb hx I (vs := [V.ref a, V.ref b]) (.cons rfl (.cons rfl .nil)) h) (fun w s' z => ?_) fun _ _ e => e
  obtain ⟨v, H', I', rv, q⟩ := z
  have := no_ni rv
  cases w <;> first | exact absurd rfl this | exact ⟨v, H', I', rv, q⟩
/-- len(a) by the class's own __len__ -/
def rLenOwn (C : Addr) (sp : Sp) (E : XK) : List V → Hp → VK → Prop := fun xs H Q => ∃ a dx fs, xs = [.ref a] ∧ H a = some (.ins C dx fs) ∧ sp [.ref a] H (fun v H' => ∃ n : Int, v = .int n ∧ 0 ≤ n ∧ n < 2 ^ 63 ∧ Q (.int n) H') E
theorem len_own (F : FnOk X.prog X.w X.K X.mg X.base CX k f fd ps sp) (hr : Room (k + 1) X.A) (hs : PySem.W.findIn X.K (.ref C) "__len__" = some (some (.ref f))) (hf : PySem.W.isFn X.K (.ref f) = true)
    (hb : Binds X.K fd ps []) (hx : Passes CX X E) : CallR X (.builtin "len") (rLenOwn C sp E) := by
  intro pins s σ H xs us Q I r hq
  obtain ⟨a, dx, fs, rfl, ha, h⟩ := hq
  obtain rfl := Vals.ref1 r
  obtain ⟨mA, J, _⟩ := ins_get I.hok ha
  obtain ⟨od, J, _⟩ := J.look
  obtain ⟨m, hF⟩ := I.fr
  refine PySem.W.len_K hF I.ok.mod.kin J hs hf ?_
  refine wpAny_mono (own_call1 (A := X.A.in1) rfl F hr.in1 hb hx I (vs := [V.ref a]) (.cons rfl .nil) h) (fun w s' z => ?_) fun _ _ e => e
  obtain ⟨v, H', I', rv, n, rfl, h0, h1, q⟩ := z
  obtain ⟨t, rfl⟩ := rv
  exact ⟨⟨h0, h1⟩, .int n, H', I'.tok _, ⟨_, rfl⟩, q⟩
end
end Ow

set_option Elab.async false
set_option linter.all false
set_option maxRecDepth 100000
set_option maxHeartbeats 3200000
/-! a != b, both of a class of the text that has only an own __eq__ -/
namespace Ow
open PySem PySem.Spec PyProof.Rows L2
theorem ifBound_b {A : Around} {E : Value → Shared → Prop} {s : Shared} {K : PySem.W.Frag} {x C : Addr} {ox : Obj} {od : Option Obj} {name : Str} {id : String} {M : Model} {args : List Value} {Q : Option Value → Shared → Prop} (X : K.In s.heap) (I : PySem.W.InstAt s.heap x ox C od)
    (hs : PySem.W.findIn K (.ref C) name = some (some (.builtin id))) (hb : ∀ self, bindSpecial (.builtin id) self = pure (.builtin id, [self]))
    (h : wpAny M A (call (.builtin id) (.ref x :: args)) (fun v => Q (some v)) E s) : wpAny M A (callSpecialIfBound? (.ref x) name args) Q E s := by
  simp only [callSpecialIfBound?, bindSpecialIfBound?]
  refine wpAny_holding (wpAny_bind (wpAny_bind (wpAny_bind (I.type.here ((PySem.W.looks_findIn X hs).here ?_)))))
  simp only [hb]
  refine wpAny_bind (wpAny_askSetting (wpAny_ite ?_))
  have fin : wpAny M A (call (.builtin id) ([.ref x] ++ args) >>= fun v => pure (some v)) Q E s := wpAny_bind (wpAny_mono h (fun v s' h' => wpAny_pure h') fun _ _ h' => h')
  split
  · exact wpAny_bind (wpAny_pure (wpAny_pure fin))
  · exact wpAny_tryCatch (wpAny_bind (wpAny_pure (wpAny_pure fin)))
section
variable {X : Cx} {CX : CXT} {C f : Addr} {fd : FuncData} {ps : List Str} {sp : Sp} {E : XK} {k : Nat}
def rOwnNe (C : Addr) (sp : Sp) (E : XK) : R2 := fun x y H Q => ∃ a b dx dy fs gs, x = .ref a ∧ y = .ref b ∧ H a = some (.ins C dx fs) ∧ H b = some (.ins C dy gs) ∧ sp [.ref a, .ref b] H (fun v H' => ∃ t : Bool, v = .bl t ∧ Q (.bl (!t)) H') E
theorem ne_own (F : FnOk X.prog X.w X.K X.mg X.base CX k f fd ps sp) (hr : Room (k + 1) X.A) (hob : PySem.W.subIn X.K (.ref C) (.type "object") = some true) (hn : PySem.W.findIn X.K (.ref C) "__ne__" = some (some (.builtin "object.__ne__")))
    (hs : PySem.W.findIn X.K (.ref C) "__eq__" = some (some (.ref f))) (hf : PySem.W.isFn X.K (.ref f) = true) (hb : Binds X.K fd ps []) (hx : Passes CX X E) : OpR X (compareOp .NotEq) (rOwnNe C sp E) := by
  intro pins s σ H x y u v Q I rx ry hq
  obtain ⟨a, b, dx, dy, fs, gs, rfl, rfl, ha, hb', h⟩ := hq
  cases rx
  cases ry
  obtain ⟨mA, J, _⟩ := ins_get I.hok ha
  obtain ⟨mB, J', _⟩ := ins_get I.hok hb'
  obtain ⟨od, J, _⟩ := J.look
  obtain ⟨od', J', _⟩ := J'.look
  obtain ⟨m, hF⟩ := I.fr
  have X0 := I.ok.mod.kin.keeps hF.keep
  have inner := own_call1 (A := X.A.in1) rfl F hr.in1 hb hx I (vs := [V.ref a, V.ref b]) (us := [.ref a, .ref b]) (.cons rfl (.cons rfl .nil)) h
  have one : wpAny (model X.prog X.w) X.A (tryCompare (.ref a) "__ne__" (.ref b)) (fun r s' => ∃ v, r = some v ∧ EP X pins σ Q v s') X.xe s := by
    unfold tryCompare
    refine wpAny_bind (ifBound_b X0 J hn PySem.F.cmp_object.ne.bind (wpAny_call (codeAny_call_builtin PySem.F.cmp_object.ne.plain PySem.F.cmpEntry_ne
      (PySem.W.check_slot PySem.F.cmpKind_ne PySem.F.cmpSplit_ne (J.type.andThen (PySem.W.looks_subIn X0 hob)) (PySem.F.cmpArgs_ne _ _) ?_))))
    unfold Builtin.«object.__ne__»
    repeat (first
      | with_reducible refine wpAny_cRoomFor hr.in1.units0 ?_
      | (refine wpAny_bind (m := callSpecialIfBound? (.ref a) (Str.ofString "__eq__") [.ref b]) (PySem.W.ifBound_K X0 J hs hf (wpAny_mono inner (fun r s' hr' => ?_) fun _ _ e => e)))
      | wp_step)
    obtain ⟨v, H', I', rv, t, rfl, q⟩ := hr'
    obtain rfl : r = Value.bool t := rv
    repeat (first | (refine wpAny_bind (m := truthy (.bool _)) (wpAny_truthy_bool ?_)) | wp_step)
    first
      | exact ⟨_, rfl, .bl (!t), H', I', rfl, q⟩
      | exact wpAny_pure ⟨_, rfl, .bl (!t), H', I', rfl, q⟩
  show wpAny (model X.prog X.w) X.A (richCompare .NotEq (.ref a) (.ref b)) (EP X pins σ Q) X.xe s
  unfold richCompare
  simp only [oneThing_ref]
  refine wpAny_holding (wpAny_bind (wpAny_cRoomFor hr.units0 ?_))
  refine wpAny_bind (J.type.here (wpAny_bind (J'.type.here ?_)))
  rw [show (Value.ref C != Value.ref C) = false from by simp]
  simp only [Bool.false_eq_true, if_false]
  refine wpAny_bind (wpAny_pure ?_)
  simp only [Bool.false_eq_true, if_false]
  refine wpAny_bind (wpAny_mono one (fun r s' z => ?_) fun _ _ e => e)
  obtain ⟨v, rfl, hq⟩ := z
  exact wpAny_pure hq
end
end Ow

set_option linter.all false
/-! rows of runs put together: the free group, by hand. A row lies with its last run ahead. -/
namespace Wm
variable {α : Type} [DecidableEq α]
/-- one more run behind a row -/
def push (p : α × Int) : List (α × Int) → List (α × Int)
  | [] => if p.2 = 0 then [] else [p]
  | q :: t => if p.2 = 0 then q :: t else if q.1 = p.1 then (if q.2 + p.2 = 0 then t else (q.1, q.2 + p.2) :: t) else p :: q :: t
/-- unlike neighbours, no exponent 0 -/
def Red : List (α × Int) → Prop
  | [] => True
  | [p] => p.2 ≠ 0
  | p :: q :: t => p.2 ≠ 0 ∧ p.1 ≠ q.1 ∧ Red (q :: t)
theorem Red.tail {p : α × Int} {t : List (α × Int)} (h : Red (p :: t)) : Red t := by
  cases t with
  | nil => trivial
  | cons q t => exact h.2.2
theorem Red.head {p : α × Int} {t : List (α × Int)} (h : Red (p :: t)) : p.2 ≠ 0 := by
  cases t with
  | nil => exact h
  | cons q t => exact h.1
theorem Red.swap {p : α × Int} {t : List (α × Int)} (h : Red (p :: t)) {n : Int} (hn : n ≠ 0) : Red ((p.1, n) :: t) := by
  cases t with
  | nil => exact hn
  | cons q t => exact ⟨hn, h.2.1, h.2.2⟩
theorem red_push {p : α × Int} {r : List (α × Int)} (h : Red r) : Red (push p r) := by
  cases r with
  | nil =>
    show Red (if p.2 = 0 then [] else [p])
    by_cases e : p.2 = 0
    · rw [if_pos e]
      trivial
    · rw [if_neg e]
      exact e
  | cons q t =>
    show Red (if p.2 = 0 then q :: t else if q.1 = p.1 then (if q.2 + p.2 = 0 then t else (q.1, q.2 + p.2) :: t) else p :: q :: t)
    by_cases e1 : p.2 = 0
    · rw [if_pos e1]
      exact h
    · rw [if_neg e1]
      by_cases e2 : q.1 = p.1
      · rw [if_pos e2]
        by_cases e3 : q.2 + p.2 = 0
        · rw [if_pos e3]
          exact h.tail
        · rw [if_neg e3]
          exact h.swap e3
      · rw [if_neg e2]
        exact ⟨e1, fun e => e2 e.symm, h⟩
theorem push_zero {x : α} {r : List (α × Int)} : push (x, 0) r = r := by
  cases r with
  | nil => rfl
  | cons q t => rfl
theorem push_push {x : α} {m n : Int} {r : List (α × Int)} (h : Red r) : push (x, n) (push (x, m) r) = push (x, m + n) r := by
  by_cases hm : m = 0
  · subst hm
    rw [push_zero, Int.zero_add]
  by_cases hn : n = 0
  · subst hn
    rw [push_zero, Int.add_zero]
  cases r with
  | nil =>
    have e1 : push (x, m) [] = [(x, m)] := if_neg hm
    rw [e1]
    show (if n = 0 then _ else if x = x then (if m + n = 0 then _ else _) else _) = (if m + n = 0 then _ else _)
    rw [if_neg hn, if_pos rfl]
  | cons q t =>
    by_cases hq : q.1 = x
    · have e1 : push (x, m) (q :: t) = if q.2 + m = 0 then t else (q.1, q.2 + m) :: t := by
        show (if m = 0 then _ else if q.1 = x then _ else _) = _
        rw [if_neg hm, if_pos hq]
      have e2 : push (x, m + n) (q :: t) = if m + n = 0 then q :: t else if q.2 + (m + n) = 0 then t else (q.1, q.2 + (m + n)) :: t := by
        show (if m + n = 0 then _ else if q.1 = x then _ else _) = _
        rw [if_pos hq]
      rw [e1, e2]
      by_cases h0 : q.2 + m = 0
      · rw [if_pos h0]
        have hne : q.2 ≠ 0 := h.head
        by_cases hmn : m + n = 0
        · -- n is q.2 again
          have en : n = q.2 := by omega
          rw [if_pos hmn, en]
          have hq' : q = (x, q.2) := by rw [← hq]
          cases t with
          | nil =>
            show (if q.2 = 0 then _ else [(x, q.2)]) = [q]
            rw [if_neg hne, ← hq']
          | cons u t =>
            show (if q.2 = 0 then _ else if u.1 = x then _ else (x, q.2) :: u :: t) = q :: u :: t
            have hu : ¬ u.1 = x := fun e => h.2.1 (hq.trans e.symm)
            rw [if_neg hne, if_neg hu, ← hq']
        · rw [if_neg hmn]
          have en : q.2 + (m + n) = n := by omega
          rw [en, if_neg hn]
          cases t with
          | nil =>
            show (if n = 0 then _ else [(x, n)]) = [(q.1, n)]
            rw [if_neg hn, hq]
          | cons u t =>
            have hu : ¬ u.1 = x := fun e => h.2.1 (hq.trans e.symm)
            show (if n = 0 then _ else if u.1 = x then _ else (x, n) :: u :: t) = (q.1, n) :: u :: t
            rw [if_neg hn, if_neg hu, hq]
      · rw [if_neg h0]
        show (if n = 0 then _ else if q.1 = x then (if q.2 + m + n = 0 then t else (q.1, q.2 + m + n) :: t) else _) = _
        rw [if_neg hn, if_pos hq]
        have ea : q.2 + m + n = q.2 + (m + n) := by omega
        rw [ea]
        by_cases hmn : m + n = 0
        · rw [if_pos hmn, hmn, Int.add_zero, if_neg h.head]
        · rw [if_neg hmn]
    · have e1 : push (x, m) (q :: t) = (x, m) :: q :: t := by
        show (if m = 0 then _ else if q.1 = x then _ else _) = _
        rw [if_neg hm, if_neg hq]
      rw [e1]
      show (if n = 0 then _ else if x = x then (if m + n = 0 then q :: t else (x, m + n) :: q :: t) else _) = (if m + n = 0 then q :: t else if q.1 = x then _ else (x, m + n) :: q :: t)
      rw [if_neg hn, if_pos rfl]
      by_cases hmn : m + n = 0
      · rw [if_pos hmn, if_pos hmn]
      · rw [if_neg hmn, if_neg hmn, if_neg hq]
/-- a row, and more runs behind it, the first one ahead -/
def joint (r : List (α × Int)) (l : List (α × Int)) : List (α × Int) := l.foldl (fun r p => push p r) r
theorem joint_app (r l k : List (α × Int)) : joint r (l ++ k) = joint (joint r l) k := List.foldl_append
theorem red_joint : ∀ {l r : List (α × Int)}, Red r → Red (joint r l)
  | [], _, h => h
  | p :: l, _, h => red_joint (l := l) (red_push h)
theorem joint_push {r c : List (α × Int)} (h : Red r) (hc : Red c) (p : α × Int) : joint r (push p c).reverse = push p (joint r c.reverse) := by
  obtain ⟨x, n⟩ := p
  by_cases hn : n = 0
  · subst hn
    rw [push_zero, push_zero]
  cases c with
  | nil =>
    have e : push (x, n) [] = [(x, n)] := if_neg hn
    rw [e]
    rfl
  | cons q t =>
    have ht : Red (joint r t.reverse) := red_joint h
    have er : joint r (q :: t).reverse = push q (joint r t.reverse) := by
      rw [List.reverse_cons, joint_app]
      rfl
    rw [er]
    by_cases hq : q.1 = x
    · have e1 : push (x, n) (q :: t) = if q.2 + n = 0 then t else (q.1, q.2 + n) :: t := by
        show (if n = 0 then _ else if q.1 = x then _ else _) = _
        rw [if_neg hn, if_pos hq]
      have eq' : q = (x, q.2) := by rw [← hq]
      have ep : push (x, n) (push q (joint r t.reverse)) = push (x, q.2 + n) (joint r t.reverse) := by
        rw [eq']
        exact push_push ht
      rw [e1, ep]
      by_cases h0 : q.2 + n = 0
      · rw [if_pos h0, h0, push_zero]
      · rw [if_neg h0, List.reverse_cons, joint_app, hq]
        rfl
    · have e1 : push (x, n) (q :: t) = (x, n) :: q :: t := by
        show (if n = 0 then _ else if q.1 = x then _ else _) = _
        rw [if_neg hn, if_neg hq]
      rw [e1, List.reverse_cons, joint_app, er]
      rfl
/-- what comes of a row of runs does the same as the row -/
theorem joint_joint {r : List (α × Int)} (h : Red r) : ∀ {l c : List (α × Int)}, Red c → joint r (joint c l).reverse = joint (joint r c.reverse) l
  | [], _, _ => rfl
  | p :: l, c, hc => by
    show joint r (joint (push p c) l).reverse = joint (push p (joint r c.reverse)) l
    rw [joint_joint h (red_push hc), joint_push h hc]
/-- a row that is put together is itself -/
theorem joint_self : ∀ {r : List (α × Int)}, Red r → joint [] r.reverse = r
  | [], _ => rfl
  | [p], h => if_neg h
  | p :: q :: t, h => by
    rw [List.reverse_cons, joint_app, joint_self h.tail]
    show (if p.2 = 0 then _ else if q.1 = p.1 then _ else p :: q :: t) = _
    rw [if_neg h.1, if_neg fun e => h.2.1 e.symm]
/-- the opposite exponents -/
def neg (l : List (α × Int)) : List (α × Int) := l.map fun p => (p.1, -p.2)
theorem joint_neg {r : List (α × Int)} (h : Red r) : ∀ c : List (α × Int), joint (joint r c.reverse) (neg c) = r
  | [] => rfl
  | p :: t => by
    rw [List.reverse_cons, joint_app]
    show joint (push (p.1, -p.2) (push p (joint r t.reverse))) (neg t) = r
    have e : push (p.1, -p.2) (push p (joint r t.reverse)) = joint r t.reverse := by
      have := push_push (x := p.1) (m := p.2) (n := -p.2) (red_joint (l := t.reverse) h)
      rw [Int.add_right_neg, push_zero] at this
      exact this
    rw [e]
    exact joint_neg h t
theorem joint_neg' {r : List (α × Int)} (h : Red r) : ∀ c : List (α × Int), joint (joint r (neg c)) c.reverse = r
  | c => by
    have e : neg (neg c).reverse = c.reverse := by
      unfold neg
      rw [List.map_reverse, List.map_map]
      have : ((fun p : α × Int => (p.1, -p.2)) ∘ fun p : α × Int => (p.1, -p.2)) = id := funext fun p => by simp
      rw [this, List.map_id]
    have := joint_neg h (neg c).reverse
    rw [List.reverse_reverse, e] at this
    exact this
theorem red_neg_rev : ∀ {c : List (α × Int)}, Red c → Red (neg c).reverse := by
  intro c hc
  have : ∀ (c acc : List (α × Int)), Red c → Red acc → (∀ p q, c.head? = some p → acc.head? = some q → p.1 ≠ q.1) → Red ((neg c).reverseAux acc) := by
    intro c
    induction c with
    | nil => intro acc _ h _; exact h
    | cons p t ih =>
      intro acc h1 h2 h3
      refine ih ((p.1, -p.2) :: acc) h1.tail ?_ ?_
      · have hp : -p.2 ≠ 0 := by
          have := h1.head
          omega
        cases acc with
        | nil => exact hp
        | cons q acc => exact ⟨hp, h3 p q rfl rfl, h2⟩
      · intro u q hu hq
        cases hq
        cases t with
        | nil => cases hu
        | cons v t =>
          cases hu
          exact fun e => h1.2.1 e.symm
  exact this c [] hc trivial fun p q _ h => by cases h
/-! the group of all rows that are put together -/
/-- one word, another one behind it -/
def mul (a b : List (α × Int)) : List (α × Int) := joint a b.reverse
def inv (a : List (α × Int)) : List (α × Int) := (neg a).reverse
theorem red_mul {a b : List (α × Int)} (h : Red a) : Red (mul a b) := red_joint h
theorem red_inv {a : List (α × Int)} (h : Red a) : Red (inv a) := red_neg_rev h
theorem mul_assoc {a b c : List (α × Int)} (ha : Red a) (hb : Red b) : mul (mul a b) c = mul a (mul b c) := (joint_joint ha hb).symm
theorem mul_nil (a : List (α × Int)) : mul a [] = a := rfl
theorem nil_mul {a : List (α × Int)} (h : Red a) : mul [] a = a := joint_self h
theorem mul_inv {a : List (α × Int)} (h : Red a) : mul a (inv a) = [] := by
  unfold mul inv
  rw [List.reverse_reverse]
  have := joint_neg (r := ([] : List (α × Int))) trivial a
  rw [joint_self h] at this
  exact this
theorem inv_mul {a : List (α × Int)} (h : Red a) : mul (inv a) a = [] := by
  have e := joint_neg' (r := ([] : List (α × Int))) trivial a
  have : joint [] (neg a) = inv a := by
    have := joint_self (red_inv h)
    unfold inv at this ⊢
    rw [List.reverse_reverse] at this
    exact this
  rw [this] at e
  exact e
end Wm

set_option Elab.async false
set_option linter.all false
set_option maxRecDepth 100000
set_option maxHeartbeats 3200000
namespace K4
open PySem L2 Tx Tg Tm
/-! ### rows of runs on the heap -/
abbrev Row := List (Str × Int)
def PairAt (H : Hp) (y : V) (p : Str × Int) : Prop := ∃ t, y = .ref t ∧ H t = some (.tup [.str p.1, .int p.2])
abbrev PairsAt (H : Hp) (ys : List V) (l : Row) : Prop := PySem.W.EachIs (PairAt H) ys l
theorem PairsAt.same {H H' : Hp} (s : Same H H') {ys : List V} {l : Row} (h : PairsAt H ys l) : PairsAt H' ys l := h.mono fun y p ⟨t, e1, e2⟩ => ⟨t, e1, s _ _ e2⟩
theorem PairsAt.put {H : Hp} {p : Addr} {o : HO} {xs : List V} (hp : H p = some (.lst xs)) {ys : List V} {l : Row} (h : PairsAt H ys l) : PairsAt (upd H p o) ys l := h.mono fun y q ⟨t, e1, e2⟩ => ⟨t, e1, by
  rw [upd_ne fun e => ?_]
  · exact e2
  · rw [e, hp] at e2
    cases e2⟩
theorem each_app {α β : Type} {R : α → β → Prop} : ∀ {as : List α} {bs : List β} {cs : List α} {ds : List β}, PySem.W.EachIs R as bs → PySem.W.EachIs R cs ds → PySem.W.EachIs R (as ++ cs) (bs ++ ds)
  | _, _, _, _, .nil, h => h
  | _, _, _, _, .cons r rs, h => .cons r (each_app rs h)
theorem each_rev {α β : Type} {R : α → β → Prop} : ∀ {as : List α} {bs : List β}, PySem.W.EachIs R as bs → PySem.W.EachIs R as.reverse bs.reverse
  | _, _, .nil => .nil
  | _, _, .cons r rs => by
    rw [List.reverse_cons, List.reverse_cons]
    exact each_app (each_rev rs) (.cons r .nil)
/-- a tuple of pairs of a text and an int -/
def TupRow (K : PySem.W.Frag) (H : Hp) (a : Addr) (l : Row) : Prop := ∃ ys, SqT K H a ys ∧ PairsAt H ys l
theorem same_put {H H' : Hp} {D : Addr} {o : HO} (s : Same H H') (n : H D = none) : Same H (upd H' D o) := fun b u e => by
  rw [upd_ne (ne_of_none e n)]
  exact s b u e
theorem free_none {H H' : Hp} {p : Addr} (s : Same H H') (n : H' p = none) : H p = none := by
  cases hh : H p with
  | none => rfl
  | some o =>
    have := s _ _ hh
    rw [n] at this
    cases this
/-- what is left of pairs -/
def rowOf (l : Row) : Row := (Wm.joint [] l).reverse
theorem joint_take {l : Row} {i : Nat} {p : Str × Int} (h : l[i]? = some p) : Wm.joint [] (l.take (i + 1)) = Wm.push p (Wm.joint [] (l.take i)) := by
  rw [List.take_add_one, h]
  exact Wm.joint_app _ _ _
theorem joint_len : ∀ (l r : Row), (Wm.joint r l).length ≤ r.length + l.length
  | [], r => Nat.le_refl _
  | p :: l, r => by
    have h1 : (Wm.push p r).length ≤ r.length + 1 := by
      cases r with
      | nil =>
        show (if p.2 = 0 then ([] : Row) else [p]).length ≤ 1
        split <;> simp
      | cons q t =>
        show (if p.2 = 0 then q :: t else if q.1 = p.1 then (if q.2 + p.2 = 0 then t else (q.1, q.2 + p.2) :: t) else p :: q :: t).length ≤ _
        split
        · simp
        · split
          · split
            · simp; omega
            · simp
          · simp
    have h2 := joint_len l (Wm.push p r)
    show (Wm.joint (Wm.push p r) l).length ≤ _
    rw [List.length_cons]
    omega
abbrev nJoin : List Str := ["pairs", "runs", "letter", "exponent", "together"]
section
variable {P : Program} {w : World} {K : PySem.W.Frag} {mg : Str → Option Value} {base : Heap}
theorem join_tail {D : Ends} {H H2 : Hp} {p : Addr} {v0 v3 : Option V} {x : Str} {m : Int} {zs : List V} {acc res : Row} (s2 : Same H H2) (np : H p = none) (e2 : H2 p = some (.lst zs.reverse)) (hz : PairsAt H2 zs acc) (hl : acc.length ≤ 2000000)
    (hres : (if m = 0 then acc else (x, m) :: acc) = res) (q : ∀ H3 zs', Same H H3 → H3 p = some (.lst zs'.reverse) → PairsAt H3 zs' res → D.nx [v0, some (.ref p), some (.str x), v3, some (.int m)] H3) :
    tIfS (tTest (tOp rNe (tVar 4) (tC (V.int 0)))) (tDrop (tBM K "list" rAppend (tVar 1) (tCons (tTup (tCons (tVar 2) (tCons (tVar 4) tNil))) tNil))) tNext D [v0, some (.ref p), some (.str x), v3, some (.int m)] H2 := by
  refine ⟨_, rfl, rfl, _, rfl, ?_⟩
  rw [dec_int]
  by_cases hm : m = 0
  · rw [if_pos hm] at hres
    have e : (!(m == 0)) = false := by rw [hm]; rfl
    rw [e]
    rw [← hres] at q
    exact iteF (q H2 zs s2 e2 hz)
  · rw [if_neg hm] at hres
    have e : (!(m == 0)) = true := by rw [beq_eq_false_iff_ne.mpr hm]; rfl
    rw [e]
    refine iteT ?_
    refine ⟨_, rfl, .inl ⟨rfl, _, SqL.of e2⟩, _, rfl, _, rfl, by show 2 ≤ sizeLine; decide, fun pt npt => ?_⟩
    have e3 := (same_upd (o := .tup [.str x, .int m]) npt) _ _ e2
    have nPp : pt ≠ p := (ne_of_none e2 npt).symm
    refine ⟨p, _, _, rfl, rfl, e3, ?_, ?_⟩
    · rw [List.length_reverse, hz.length]
      exact Nat.lt_of_le_of_lt hl (by decide)
    · refine q _ (.ref pt :: zs) (same_put (s2.trans (same_upd npt)) np) ?_ ?_
      · rw [upd_same, List.reverse_cons]
      · rw [← hres]
        exact .cons ⟨pt, rfl, by rw [upd_ne nPp, upd_same]⟩ ((hz.same (same_upd npt)).put e3)
def spJoin (K : PySem.W.Frag) : Sp := fun vs H Q _ => ∃ (a : Addr) (l : Row), vs = [.ref a] ∧ TupRow K H a l ∧ l.length ≤ 1000000 ∧ ∀ p H' ys, H p = none → Same H H' → H' p = some (.tup ys) → PairsAt H' ys (rowOf l) → Q (.ref p) H'
theorem scJoin : FnScope nJoin ["pairs"] (defScope sJoin) := ⟨rfl, rfl, rfl, by decide +kernel, rfl, by decide +kernel, by decide +kernel⟩
theorem ok_join {f : Addr} {fd : FuncData} (F : Fun K "joined_runs" "joined_runs" sJoin f fd) (T : Txt K mg) : FnOk P w K mg base CX0 1 f fd ["pairs"] (spJoin K) := by
  refine F.ok scJoin (fun vs H Q E h => ?_) (fun cdv A outer s H vs Q E hr h => ?_)
  · obtain ⟨a, l, rfl, _⟩ := h
    rfl
  · obtain ⟨a, l, rfl, ⟨ys0, ha, hp0⟩, hl, q⟩ := h
    refine ⟨_, pss_cons (ps_set (i := 1) scJoin.nd rfl (Or.inl rfl) (pe_lst pa_nil))
      (pss_cons (ps_for PassesOwn.never rfl (pi_tup (pv 0)) (pg_tup rfl (pgs_cons (pg_name (i := 2) scJoin.nd rfl (Or.inl rfl)) (pgs_cons (pg_name (i := 3) scJoin.nd rfl (Or.inl rfl)) pgs_nil)))
        (pss_cons (ps_set (i := 4) scJoin.nd rfl (Or.inl rfl) (pv 3))
        (pss_cons (ps_if (PW.pt (pw_and (pt_truth (pv 1) (by intro _; rfl)) (pw_and1 (pt_cmpR op_eq (pe_ix ix_tup (pe_ix ix_list (pv 1) (pe_un un_neg pe_int) (fun _ _ => rfl)) pe_int (fun _ _ => rfl)) (pv 2) (nomark _)))))
          (pss_one (ps_set (i := 4) scJoin.nd rfl (Or.inl rfl) (pe_op op_add (pv 3) (pe_ix ix_tup (pe_bm0 PySem.F.plainAttrs_list PySem.F.slot_list_pop PySem.F.type_list_pop mt_pop (pv 1)) pe_int (fun _ _ => rfl))))) pss_nil)
        (pss_one (ps_if (pt_cmpR op_ne (pv 4) pe_int (nomark _)) (pss_one (ps_expr (pe_bm PySem.F.plainAttrs_list PySem.F.slot_list_append PySem.F.type_list_append mt_append (pv 1) (pa_cons (pe_tup (pa_cons (pv 2) (pa_cons (pv 4) pa_nil))) pa_nil)))) pss_nil)))))
      (pss_one (ps_ret (pe_callTy call_tuple_of (by rfl) T.tuple (by decide +kernel) (pa_cons (pv 1) pa_nil))))), ?_⟩
    refine ⟨by decide, fun p np => ?_⟩
    have s0 : Same H (upd H p (.lst [])) := same_upd np
    have sT : ∀ {H'}, Same H H' → SqT K H' a ys0 := fun s => by
      rcases ha with h | h
      · rcases h with h | ⟨o, h⟩
        · exact .inl (.inl (s _ _ h))
        · exact .inl (.inr ⟨o, s _ _ h⟩)
      · exact .inr h
    have hlen : ys0.length = l.length := hp0.length
    refine ⟨_, rfl, a, rfl, ⟨_, sT s0⟩, ?_⟩
    refine for_tup (xs := ys0) (fun i σ H1 => ∃ (t2 t3 t4 : Option V) (zs : List V), σ = [some (.ref a), some (.ref p), t2, t3, t4] ∧ Same H H1 ∧ H1 p = some (.lst zs.reverse) ∧ PairsAt H1 zs (Wm.joint [] (l.take i)))
      ⟨none, none, none, [], rfl, s0, upd_same, .nil⟩ (fun i σ H1 _ z => by obtain ⟨_, _, _, _, _, s, _⟩ := z; exact sT s) ?_ ?_
    · rintro i x σ H1 hx ⟨t2, t3, t4, zs, rfl, s1, e1, hz⟩
      have hi := (List.getElem?_eq_some_iff.mp hx).1
      have hi' : i < l.length := by omega
      obtain ⟨t, rfl, et⟩ : PairAt H x l[i] := hp0.zip (x, l[i]) (List.mem_of_getElem? (i := i) (by rw [List.getElem?_zip_eq_some]; exact ⟨hx, List.getElem?_eq_getElem hi'⟩))
      rw [joint_take (List.getElem?_eq_getElem hi')]
      have hred : Wm.Red (Wm.joint [] (l.take i)) := Wm.red_joint (r := ([] : Row)) trivial
      have hjl : (Wm.joint [] (l.take i)).length ≤ i := by
        have := joint_len (l.take i) []
        rw [List.length_take, List.length_nil] at this
        omega
      have hzl := hz.length
      generalize l[i] = pr at et ⊢
      generalize Wm.joint [] (l.take i) = acc at hz hred hjl hzl ⊢
      refine ⟨t, _, rfl, SqT.of (s1 _ _ et), rfl, _, _, rfl, _, _, rfl, rfl, ?_⟩
      refine ⟨_, rfl, ?_⟩
      have hres : ∀ {m : Int} {c r : Row}, (if m = 0 then c else (pr.1, m) :: c) = r → (if m = 0 then c else (pr.1, m) :: c) = r := fun h => h
      cases hz with
      | nil =>
        refine ⟨_, rfl, false, .inl ⟨_, SqL.of e1, rfl⟩, iteF ?_⟩
        exact join_tail (acc := []) s1 np e1 .nil (Nat.zero_le _) rfl fun H3 zs' a1 a2 a3 => ⟨_, _, _, zs', rfl, a1, a2, a3⟩
      | @cons z c zs' acc' hzc hz' =>
        have hb : (z :: zs').reverse = zs'.reverse ++ [z] := List.reverse_cons ..
        obtain ⟨tz, rfl, etz⟩ := hzc
        have hne : (!((V.ref tz :: zs').reverse).isEmpty) = true := by rw [hb]; simp
        refine ⟨_, rfl, true, .inl ⟨_, SqL.of e1, hne.symm⟩, iteT ?_⟩
        refine ⟨_, rfl, _, rfl, p, _, _, .ref tz, rfl, rfl, SqL.of e1, by rw [hb]; exact atI_last _ _, tz, _, _, .str c.1, rfl, rfl, SqT.of etz, rfl, _, rfl, rfl, _, rfl, ?_⟩
        have hs : decide (V.str c.1 = V.str pr.1) = decide (c.1 = pr.1) := decide_eq_decide.mpr ⟨fun e => by injection e, fun e => by rw [e]⟩
        rw [hs]
        have hcl : acc'.length ≤ 1000000 := by
          rw [List.length_cons] at hjl
          omega
        by_cases hc : c.1 = pr.1
        · rw [decide_eq_true hc]
          refine iteT ?_
          refine ⟨_, rfl, _, rfl, .inl ⟨rfl, _, SqL.of e1⟩, p, _, .ref tz, rfl, rfl, e1, ?_, ?_⟩
          · rw [hb, List.length_append, List.length_singleton, Nat.add_sub_cancel, List.getElem?_append_right (Nat.le_refl _), Nat.sub_self]
            rfl
          have hd : ((V.ref tz :: zs').reverse).dropLast = zs'.reverse := by rw [hb, List.dropLast_concat]
          rw [hd]
          have ntp : tz ≠ p := fun e => by
            rw [e, e1] at etz
            cases etz
          refine ⟨tz, _, _, .int c.2, rfl, rfl, SqT.of (by rw [upd_ne ntp]; exact etz), rfl, _, _, rfl, rfl, ?_⟩
          refine join_tail (acc := acc') (same_put s1 np) np upd_same (PairsAt.put e1 hz') (by omega) ?_ fun H3 zs'' a1 a2 a3 => ⟨_, _, _, zs'', rfl, a1, a2, a3⟩
          show _ = (if pr.2 = 0 then c :: acc' else if c.1 = pr.1 then (if c.2 + pr.2 = 0 then acc' else (c.1, c.2 + pr.2) :: acc') else pr :: c :: acc')
          have hc2 : c.2 ≠ 0 := hred.head
          have ea : pr.2 + c.2 = c.2 + pr.2 := Int.add_comm _ _
          rw [ea]
          by_cases h0 : pr.2 = 0
          · rw [if_pos h0, h0, Int.add_zero, if_neg hc2, ← hc]
          · rw [if_neg h0, if_pos hc, hc]
        · rw [decide_eq_false hc]
          refine iteF ?_
          refine join_tail (acc := c :: acc') s1 np e1 (.cons ⟨tz, rfl, etz⟩ hz') (by rw [List.length_cons]; omega) ?_ fun H3 zs'' a1 a2 a3 => ⟨_, _, _, zs'', rfl, a1, a2, a3⟩
          show _ = (if pr.2 = 0 then c :: acc' else if c.1 = pr.1 then _ else pr :: c :: acc')
          rw [if_neg hc]
    · rintro σ H1 ⟨t2, t3, t4, zs, rfl, s1, e1, hz⟩
      have et : l.take ys0.length = l := List.take_of_length_le (by omega)
      rw [et] at hz
      refine ⟨_, rfl, p, _, rfl, .inl ⟨SqL.of e1, fun pl npl => ?_⟩⟩
      exact q pl _ _ (free_none s1 npl) (s1.trans (same_upd npl)) upd_same (PairsAt.same (same_upd npl) (each_rev hz))
end
end K4

set_option Elab.async false
set_option linter.all false
set_option maxRecDepth 100000
set_option maxHeartbeats 3200000
/-! a tuple backwards: t[::-1] -/
namespace K4
open PySem PySem.Spec PyProof.Rows L2 Tx Tg Tm
theorem back_adjust (n : Nat) : Builtin.Slice.sliceAdjust none none (-1) (n : Int) = ((n : Int) - 1, -1) := rfl
theorem back_places (n : Nat) : Builtin.Slice.slicePlaces ((n : Int) - 1) (-1) (-1) = n := by
  show (if (-1 : Int) > 0 then _ else (if (n : Int) - 1 > -1 then ((n : Int) - 1 - -1 - 1) / (- -1) + 1 else 0)).toNat = n
  rw [if_neg (by decide)]
  by_cases h : (n : Int) - 1 > -1
  · rw [if_pos h]
    have e : ((n : Int) - 1 - -1 - 1) / (- -1) = (n : Int) - 1 := by
      rw [show (- -1 : Int) = 1 by decide, Int.ediv_one]
      omega
    rw [e]
    omega
  · rw [if_neg h]
    omega
theorem fm_congr {α β : Type} {f g : α → Option β} : ∀ {l : List α}, (∀ x ∈ l, f x = g x) → l.filterMap f = l.filterMap g
  | [], _ => rfl
  | x :: l, h => by
    rw [List.filterMap_cons, List.filterMap_cons, h x List.mem_cons_self, fm_congr fun y hy => h y (List.mem_cons_of_mem _ hy)]
theorem back_pick (xs : Array Value) : ((List.range xs.size).filterMap fun (k : Nat) => xs[((xs.size : Int) - 1 + (k : Int) * -1).toNat]?).toArray = xs.toList.reverse.toArray := by
  have e : (List.range xs.size).filterMap (fun (k : Nat) => xs[((xs.size : Int) - 1 + (k : Int) * -1).toNat]?) = (List.range xs.size).reverse.filterMap (xs[·]?) := by
    rw [← PySem.W.krv_range, List.filterMap_map]
    refine fm_congr fun k hk => ?_
    have := List.mem_range.mp hk
    have en : ((xs.size : Int) - 1 + (k : Int) * -1).toNat = xs.size - 1 - k := by omega
    show xs[_]? = xs[xs.size - 1 - k]?
    rw [en]
  rw [e, List.filterMap_reverse, PySem.W.krv_all]
section
variable {prog : Program} {w : World} {A : Around} {E : Value → Shared → Prop} {s : Shared}
theorem tup_back {t sl : Addr} {items : Array Value} {vs : Value} {Q : Value → Shared → Prop} (ht : IsTup s.heap t items) (hs : s.heap.IsSliceOf sl .none .none vs) (ps : IsPart vs (some (-1))) (hsz : items.size ≤ sizeLine)
    (h : Q (.ref s.heap.objs.size) { s with heap := s.heap.push { cls := .type "tuple", data := .seq items.toList.reverse.toArray } }) : wpAny (model prog w) A (getItem (.ref t) (.ref sl)) Q E s := by
  obtain ⟨os, hos, hcs, hds⟩ := id hs
  have tS : s.TypeIs (.ref sl) "slice" := ⟨os, hos, hcs⟩
  have big : sizeOk (.seq items.toList.reverse.toArray) := by
    show items.toList.reverse.toArray.size ≤ sizeLine
    rw [List.size_toArray, List.length_reverse, Array.length_toList]
    exact hsz
  have applied : ∀ {R : Int × Int × Nat → Shared → Prop} {E' : Value → Shared → Prop} {B : Around}, R ((items.size : Int) - 1, -1, items.size) s → wpAny (model prog w) B (Builtin.Slice.sliceApplied (.ref sl) (pure (items.size : Int))) R E' s := by
    intro R E' B hR
    unfold Builtin.Slice.sliceApplied Builtin.Slice.sliceFields
    refine wpAny_bind (wpAny_bind (wpAny_field hos hds (x := .none) rfl (wpAny_bind (wpAny_field hos hds (x := .none) rfl (wpAny_bind (wpAny_field hos hds (x := vs) rfl (wpAny_pure ?_)))))))
    refine wpAny_bind (HT.slicePart_ ps ?_)
    show wpAny _ _ (if ((-1 : Int) == 0) = true then _ else _) _ _ s
    rw [if_neg (by decide)]
    refine wpAny_bind (HT.slicePart_ .none (wpAny_bind (HT.slicePart_ .none (wpAny_bind (wpAny_pure ?_)))))
    show wpAny _ _ (match Builtin.Slice.sliceAdjust none none (-1) (items.size : Int) with | (lo, hi) => pure (lo, (-1 : Int), Builtin.Slice.slicePlaces lo hi (-1))) _ _ s
    rw [back_adjust]
    show wpAny _ _ (pure ((items.size : Int) - 1, (-1 : Int), Builtin.Slice.slicePlaces ((items.size : Int) - 1) (-1) (-1))) _ _ s
    rw [back_places]
    exact wpAny_pure hR
  unfold getItem
  try with_reducible refine wpAny_holding ?_
  first | refine wpAny_bind (wpAny_pure ?_) | skip
  refine wpAny_bind (wpAny_sequenceKey ht.typeIs (by decide) (wpAny_bind (wpAny_callSpecial?_slot (name := Str.ofString "__getitem__") ht.typeIs PyProof.Rows.slot_tuple_getitem
    (wpAny_call_entry PyProof.Rows.slot_tuple_getitem ht.typeIs entry_tuple_getitem ?_ (args_tuple_getitem _ _)))))
  show wpAny _ _ (Builtin.Tuple.tupleItemsOf (.ref t) >>= _) _ _ s
  refine wpAny_bind (tupleItemsOf_ ht (wpAny_bind (wpAny_typeOf tS ?_)))
  rw [if_pos (by decide)]
  refine wpAny_bind (applied ?_)
  have no : ¬ ((((items.size : Int) - 1) == 0 && (-1 : Int) == 1 && items.size == items.size) = true) := by
    rw [Bool.and_eq_true, Bool.and_eq_true]
    exact fun q => absurd q.1.2 (by decide)
  show wpAny _ _ (if (((items.size : Int) - 1) == 0 && (-1 : Int) == 1 && items.size == items.size) = true then _ else _) _ _ s
  rw [if_neg no, back_pick]
  first
    | exact wpAny_bind (m := Builtin.Tuple.tupleExact _) (wpAny_newObj_type (wpAny_pure ⟨_, rfl, wpAny_pure h⟩) big)
    | exact wpAny_bind (m := Builtin.Tuple.tupleExact _) (wpAny_newObj_type (wpAny_bind (wpAny_pure (wpAny_pure ⟨_, rfl, wpAny_pure h⟩))) big)
    | exact wpAny_bind (wpAny_bind (m := Builtin.Tuple.tupleExact _) (wpAny_newObj_type (wpAny_pure (wpAny_pure ⟨_, rfl, wpAny_pure h⟩)) big))
    | exact wpAny_bind (wpAny_bind (m := Builtin.Tuple.tupleExact _) (wpAny_newObj_type (wpAny_pure ⟨_, rfl, wpAny_pure h⟩) big))
end
section
variable {X : Cx}
def tBackT (K : PySem.W.Frag) (te : TE) : TE := fun σ H Q => te σ H fun x H1 => ∃ a xs, x = .ref a ∧ SqT K H1 a xs ∧ ∀ p, H1 p = none → Q (.ref p) (upd H1 p (.tup xs.reverse))
theorem pe_backT {e : Expr} {te : TE} {k : Nat} {p1 p2 p3 pos : Pos} (he : PE X e te) : PE X (.Subscript e (.Slice none none (some (.UnaryOp .USub (.Constant (.int 1) k p1) p2)) p3) pos) (tBackT X.K te) := by
  refine ⟨fun pins s σ H Q I h => Subscript_ (thn (he.run pins s σ H _ I h) fun v s1 ⟨x, H1, I1, r1, a, xs, ex, hx, q⟩ => ?_)⟩
  subst ex
  cases r1
  have minus : PO X (some (.UnaryOp .USub (.Constant (.int 1) k p1) p2)) (tPart (tUn (rU fun i => .int (-i)) (tC (.int 1)))) := po_some (pe_un un_neg pe_int)
  refine wpAny_Slice (thn (po_none.run pins s1 σ H1 (fun o H2 => o = none ∧ H2 = H1) I1 ⟨rfl, rfl⟩) fun vl s2 ⟨l, H2, I2, pl, el, e2⟩ => ?_)
  subst el e2
  refine thn (po_none.run pins s2 σ H2 (fun o H3 => o = none ∧ H3 = H2) I2 ⟨rfl, rfl⟩) fun vu s3 ⟨u, H3, I3, pu, eu, e3⟩ => ?_
  subst eu e3
  refine thn (minus.run pins s3 σ H3 (fun o H4 => o = some (-1) ∧ H4 = H3) I3 ⟨1, rfl, -1, rfl, rfl, rfl⟩) fun vs s4 ⟨o, H4, I4, ps, eo, e4⟩ => ?_
  subst eo e4
  have I5 : Inv X pins σ H4 { s4 with heap := s4.heap.push { cls := .type "slice", data := .fields #[vl, vu, vs] } } := I4.kept (t' := s4.toks) fun b ob q => Heap.get?_push_of_some _ q
  obtain ⟨its, r, ht, hz⟩ := I5.tuple hx
  have hlen := r.length
  cases pl
  cases pu
  show wpAny (model X.prog X.w) X.A (subscriptTail e (.Slice none none (some (.UnaryOp .USub (.Constant (.int 1) k p1) p2)) p3) (.ref a) (.ref s4.heap.objs.size)) (EP X pins σ Q) X.xe { s4 with heap := s4.heap.push { cls := .type "slice", data := .fields #[.none, .none, vs] } }
  refine tail_any (ops := [.ref a, .ref s4.heap.objs.size]) ht.typeIs PyProof.Rows.slot_tuple_getitem.lookup ?_ (by with_unfolding_all rfl)
  refine tup_back ht (Heap.IsSliceOf.new _ .none .none vs) ps (by rw [List.size_toArray]; omega) ?_
  refine ⟨.ref _, _, I5.laid (t' := s4.toks) (o := .tup xs.reverse) (fun b ob q => Heap.get?_push_of_some _ q) (Nat.le_refl _) ?_, rfl, q _ (I5.hok.fresh (Nat.le_refl _))⟩
  exact ⟨by rw [List.length_reverse]; exact hz, _, r.reverse, IsTup.new _ _⟩
end
end K4

set_option Elab.async false
set_option linter.all false
set_option maxRecDepth 100000
set_option maxHeartbeats 3200000
namespace K4
open PySem L2 Tx Tg Tm
theorem TupRow.same {K : PySem.W.Frag} {H H' : Hp} {a : Addr} {l : Row} (s : Same H H') (h : TupRow K H a l) : TupRow K H' a l := by
  obtain ⟨ys, ha, hp⟩ := h
  refine ⟨ys, ?_, hp.same s⟩
  rcases ha with h | h
  · rcases h with h | ⟨o, h⟩
    · exact .inl (.inl (s _ _ h))
    · exact .inl (.inr ⟨o, s _ _ h⟩)
  · exact .inr h
theorem TupRow.new {K : PySem.W.Frag} {H : Hp} {a : Addr} {ys : List V} {l : Row} (h : H a = some (.tup ys)) (p : PairsAt H ys l) : TupRow K H a l := ⟨ys, SqT.of h, p⟩
/-- behind one another -/
def rCatRow (K : PySem.W.Frag) : R2 := fun x y H Q => ∃ a b l k, x = .ref a ∧ y = .ref b ∧ TupRow K H a l ∧ TupRow K H b k ∧ l.length + k.length ≤ 10000000 ∧ ∀ p H', Same H H' → TupRow K H' p (l ++ k) → Q (.ref p) H'
theorem op_catRow {X : Cx} : OpR X (binaryOp .Add) (rCatRow X.K) := by
  intro pins s σ H x y v u Q I rx ry h
  obtain ⟨a, b, l, k, rfl, rfl, ⟨xs, hx, px⟩, ⟨ys, hy, py⟩, hl, q⟩ := h
  refine op_catA pins s σ H _ _ v u Q I rx ry ⟨a, b, xs, ys, rfl, rfl, hx, hy, ?_, fun e => ?_, fun _ e => ?_, fun _ _ p np => ?_⟩
  · rw [px.length, py.length]
    exact Nat.le_trans hl (by decide)
  · subst e
    cases px
    exact q b H (Same.refl H) ⟨ys, hy, py⟩
  · subst e
    cases py
    rw [List.append_nil] at q
    exact q a H (Same.refl H) ⟨xs, hx, px⟩
  · exact q p _ (same_upd np) (.new upd_same (PairsAt.same (same_upd np) (each_app px py)))
/-- the word undone, the first run ahead -/
def undo (l : Row) : Row := (Wm.neg l).reverse
theorem undo_eq (l : Row) : undo l = l.reverse.map fun p => (p.1, -p.2) := by
  unfold undo Wm.neg
  rw [List.map_reverse]
theorem undo_len (l : Row) : (undo l).length = l.length := by
  rw [undo_eq, List.length_map, List.length_reverse]
theorem rowOf_len (l : Row) : (rowOf l).length ≤ l.length := by
  unfold rowOf
  rw [List.length_reverse]
  have := joint_len l []
  rw [List.length_nil] at this
  omega
section
variable {P : Program} {w : World} {K : PySem.W.Frag} {mg : Str → Option Value} {base : Heap}
def spRow1 (K : PySem.W.Frag) (g : Row → Row) : Sp := fun vs H Q _ => ∃ (a : Addr) (l : Row), vs = [.ref a] ∧ TupRow K H a l ∧ l.length ≤ 1000000 ∧ ∀ p H', Same H H' → TupRow K H' p (g l) → Q (.ref p) H'
theorem ok_join' {f : Addr} {fd : FuncData} (F : Fun K "joined_runs" "joined_runs" sJoin f fd) (T : Txt K mg) : FnOk P w K mg base CX0 1 f fd ["pairs"] (spRow1 K rowOf) :=
  (ok_join F T).imp fun vs H Q E h => by
    obtain ⟨a, l, rfl, hr, hl, q⟩ := h
    exact ⟨a, l, rfl, hr, hl, fun p H' ys _ s e hp => q p H' s (.new e hp)⟩
theorem scUndo : FnScope ["runs", "letter", "exponent"] ["runs"] (defScope sUndo) := ⟨rfl, rfl, rfl, by decide +kernel, rfl, by decide +kernel, by decide +kernel⟩
theorem scLUndone : FnScope ["_law_row_here", "_law_sign", "_law_much"] ["_law_row_here"] (defScope sLUndone) := ⟨rfl, rfl, rfl, by decide +kernel, rfl, by decide +kernel, by decide +kernel⟩
/-- the step of both: the comprehension's invariant -/
def UInv (K : PySem.W.Frag) (H2 : Hp) (D : Addr) (l : Row) (i : Nat) (H3 : Hp) : Prop := Same H2 H3 ∧ ∃ zs, H3 D = some (.lst zs) ∧ PairsAt H3 zs ((l.reverse.take i).map fun p => (p.1, -p.2))
theorem ustep {K : PySem.W.Frag} {H2 H3 : Hp} {D : Addr} {l : Row} {i : Nat} {pr : Str × Int} (hD : H2 D = none) (h : UInv K H2 D l i H3) (hi : l.reverse[i]? = some pr) (hl : l.length ≤ 1000000) {pt : Addr} (npt : H3 pt = none) :
    ∃ acc, (upd H3 pt (.tup [.str pr.1, .int (-pr.2)])) D = some (.lst acc) ∧ acc.length < sizeLine ∧ UInv K H2 D l (i + 1) (upd (upd H3 pt (.tup [.str pr.1, .int (-pr.2)])) D (.lst (acc ++ [.ref pt]))) := by
  obtain ⟨s3, zs, e3, hz⟩ := h
  have e4 := (same_upd (o := .tup [.str pr.1, .int (-pr.2)]) npt) _ _ e3
  have nPD : pt ≠ D := (ne_of_none e3 npt).symm
  refine ⟨zs, e4, ?_, same_put (s3.trans (same_upd npt)) hD, zs ++ [.ref pt], upd_same, ?_⟩
  · rw [hz.length, List.length_map, List.length_take, List.length_reverse]
    exact Nat.lt_of_le_of_lt (show _ ≤ 1000000 by omega) (by decide)
  · rw [List.take_add_one, hi, List.map_append]
    exact each_app (PairsAt.put e4 (PairsAt.same (same_upd npt) hz)) (.cons ⟨pt, rfl, by rw [upd_ne nPD, upd_same]⟩ .nil)
theorem ok_undone {f : Addr} {fd : FuncData} (F : Fun K "undone_runs" "undone_runs" sUndo f fd) (T : Txt K mg) : FnOk P w K mg base CX0 1 f fd ["runs"] (spRow1 K undo) := by
  refine F.ok scUndo (fun vs H Q E h => ?_) (fun cdv A outer s H vs Q E hr h => ?_)
  · obtain ⟨a, l, rfl, _⟩ := h
    rfl
  · obtain ⟨a, l, rfl, ⟨ys, ha, hp⟩, hl, q⟩ := h
    refine ⟨_, pss_one (ps_ret (pe_callTy call_tuple_of (by rfl) T.tuple (by decide +kernel) (pa_cons (pe_lc (own := [("letter", 1), ("exponent", 2)]) (g := gTup K 2 (gCons (gName 1) (gCons (gName 2) gNil))) (tt := tYes) rfl scUndo.nd (pi_tup (pe_backT (pv 0)))
      (blkOk_by (own := [("letter", 1), ("exponent", 2)]) (N := ["runs", "letter", "exponent"]) (sc := defScope sUndo) (by decide +kernel))
      (fun _ _ _ _ _ => pg_tup rfl (pgs_cons (pg_name (i := 1) scUndo.nd rfl (Or.inl rfl)) (pgs_cons (pg_name (i := 2) scUndo.nd rfl (Or.inl rfl)) pgs_nil))) (fun _ _ _ _ _ => pts_nil)
      (fun _ _ _ _ _ => pe_tup (pa_cons (pv 1) (pa_cons (pe_un un_neg (pv 2)) pa_nil)))) pa_nil))), ?_⟩
    refine ⟨_, rfl, a, ys, rfl, ha, fun pb npb => ?_⟩
    have s1 := same_upd (o := .tup ys.reverse) npb
    have e1 : (upd H pb (.tup ys.reverse)) pb = some (.tup ys.reverse) := upd_same
    have hp1 : PairsAt (upd H pb (.tup ys.reverse)) ys.reverse l.reverse := PairsAt.same s1 (each_rev hp)
    generalize upd H pb (.tup ys.reverse) = H1 at s1 e1 hp1
    refine ⟨pb, rfl, ⟨_, SqT.of e1⟩, fun D hD => ?_⟩
    have hlr : ys.reverse.length = l.length := by rw [hp1.length, List.length_reverse]
    refine lc_tup (xs := ys.reverse) (UInv K H1 D l) ⟨same_upd hD, [], upd_same, .nil⟩ (fun i H2 _ z => SqT.of (z.1 _ _ e1)) ?_ ?_
    · rintro i x H2 hx hinv
      have hi := (List.getElem?_eq_some_iff.mp hx).1
      have hi' : i < l.reverse.length := by rw [List.length_reverse]; omega
      obtain ⟨t, rfl, et⟩ : PairAt H1 x l.reverse[i] := hp1.zip (x, l.reverse[i]) (List.mem_of_getElem? (i := i) (by rw [List.getElem?_zip_eq_some]; exact ⟨hx, List.getElem?_eq_getElem hi'⟩))
      refine ⟨t, _, rfl, SqT.of (hinv.1 _ _ et), rfl, _, _, rfl, _, _, rfl, rfl, rfl, iteT (B := UInv K H1 D l (i + 1) H2) ?_⟩
      refine ⟨_, rfl, _, rfl, _, rfl, by show 2 ≤ sizeLine; decide, fun pt npt => ?_⟩
      exact ustep hD hinv (List.getElem?_eq_getElem hi') hl npt
    · rintro H2 ⟨s2, zs, e2, hz⟩
      have et : l.reverse.take ys.reverse.length = l.reverse := List.take_of_length_le (by rw [hlr, List.length_reverse]; exact Nat.le_refl _)
      rw [et, ← undo_eq] at hz
      refine ⟨D, _, rfl, .inl ⟨SqL.of e2, fun pl npl => ?_⟩⟩
      exact q pl _ ((s1.trans s2).trans (same_upd npl)) (.new upd_same (PairsAt.same (same_upd npl) hz))
theorem ok_lundone {f : Addr} {fd : FuncData} (F : Fun K "_law_undone" "_law_undone" sLUndone f fd) (T : Txt K mg) : FnOk P w K mg base CX0 1 f fd ["_law_row_here"] (spRow1 K undo) := by
  refine F.ok scLUndone (fun vs H Q E h => ?_) (fun cdv A outer s H vs Q E hr h => ?_)
  · obtain ⟨a, l, rfl, _⟩ := h
    rfl
  · obtain ⟨a, l, rfl, ⟨ys, ha, hp⟩, hl, q⟩ := h
    refine ⟨_, pss_one (ps_ret (pe_callTy call_tuple_of (by rfl) T.tuple (by decide +kernel) (pa_cons (pe_lc (own := [("_law_sign", 1), ("_law_much", 2)]) (g := gTup K 2 (gCons (gName 1) (gCons (gName 2) gNil))) (tt := tYes) rfl scLUndone.nd (pi_tup (pe_backT (pv 0)))
      (blkOk_by (own := [("_law_sign", 1), ("_law_much", 2)]) (N := ["_law_row_here", "_law_sign", "_law_much"]) (sc := defScope sLUndone) (by decide +kernel))
      (fun _ _ _ _ _ => pg_tup rfl (pgs_cons (pg_name (i := 1) scLUndone.nd rfl (Or.inl rfl)) (pgs_cons (pg_name (i := 2) scLUndone.nd rfl (Or.inl rfl)) pgs_nil))) (fun _ _ _ _ _ => pts_nil)
      (fun _ _ _ _ _ => pe_tup (pa_cons (pv 1) (pa_cons (pe_op op_sub pe_int (pv 2)) pa_nil)))) pa_nil))), ?_⟩
    refine ⟨_, rfl, a, ys, rfl, ha, fun pb npb => ?_⟩
    have s1 := same_upd (o := .tup ys.reverse) npb
    have e1 : (upd H pb (.tup ys.reverse)) pb = some (.tup ys.reverse) := upd_same
    have hp1 : PairsAt (upd H pb (.tup ys.reverse)) ys.reverse l.reverse := PairsAt.same s1 (each_rev hp)
    generalize upd H pb (.tup ys.reverse) = H1 at s1 e1 hp1
    refine ⟨pb, rfl, ⟨_, SqT.of e1⟩, fun D hD => ?_⟩
    have hlr : ys.reverse.length = l.length := by rw [hp1.length, List.length_reverse]
    refine lc_tup (xs := ys.reverse) (UInv K H1 D l) ⟨same_upd hD, [], upd_same, .nil⟩ (fun i H2 _ z => SqT.of (z.1 _ _ e1)) ?_ ?_
    · rintro i x H2 hx hinv
      have hi := (List.getElem?_eq_some_iff.mp hx).1
      have hi' : i < l.reverse.length := by rw [List.length_reverse]; omega
      obtain ⟨t, rfl, et⟩ : PairAt H1 x l.reverse[i] := hp1.zip (x, l.reverse[i]) (List.mem_of_getElem? (i := i) (by rw [List.getElem?_zip_eq_some]; exact ⟨hx, List.getElem?_eq_getElem hi'⟩))
      refine ⟨t, _, rfl, SqT.of (hinv.1 _ _ et), rfl, _, _, rfl, _, _, rfl, rfl, rfl, iteT (B := UInv K H1 D l (i + 1) H2) ?_⟩
      refine ⟨_, rfl, _, rfl, _, _, rfl, rfl, by show 2 ≤ sizeLine; decide, fun pt npt => ?_⟩
      have em : (0 : Int) - (l.reverse[i]).2 = -(l.reverse[i]).2 := Int.zero_sub _
      have := ustep hD hinv (List.getElem?_eq_getElem hi') hl npt
      rw [← em] at this
      exact this
    · rintro H2 ⟨s2, zs, e2, hz⟩
      have et : l.reverse.take ys.reverse.length = l.reverse := List.take_of_length_le (by rw [hlr, List.length_reverse]; exact Nat.le_refl _)
      rw [et, ← undo_eq] at hz
      refine ⟨D, _, rfl, .inl ⟨SqL.of e2, fun pl npl => ?_⟩⟩
      exact q pl _ ((s1.trans s2).trans (same_upd npl)) (.new upd_same (PairsAt.same (same_upd npl) hz))
end
end K4

set_option Elab.async false
set_option linter.all false
set_option maxRecDepth 100000
set_option maxHeartbeats 3200000
namespace K4
open PySem L2 Tx Tg Tm
/-! ### rows as data -/
def rowD (p : Str × Int) : PyData := .tuple [.str p.1, .int p.2]
abbrev rowsD (l : Row) : List PyData := l.map rowD
def Pl (l : Row) : Prop := ∀ p ∈ l, ∀ c ∈ cds p.1, c < 128
theorem rows_all {K : PySem.W.Frag} {H : Hp} : ∀ {ys : List V} {l : Row}, PairsAt H ys l → DpAll K H ys (rowsD l)
  | _, _, .nil => .nil
  | _, _, .cons ⟨t, e1, e2⟩ h => by
    subst e1
    exact .cons (.tup (SqT.of e2) (.cons (.str _) (.cons (.int _) .nil))) (rows_all h)
theorem lay_flat : ∀ ds : List PyData, (∀ d ∈ ds, d.canLay0 = true) → PyData.canLayAll0 ds = true
  | [], _ => rfl
  | d :: ds, h => by
    show (d.canLay0 && PyData.canLayAll0 ds) = true
    rw [h d List.mem_cons_self, lay_flat ds fun e he => h e (List.mem_cons_of_mem _ he)]
    rfl
theorem deep_flat : ∀ (n : Nat) (ds : List PyData), (∀ d ∈ ds, d.depth ≤ n) → PyData.depthAll ds ≤ n
  | _, [], _ => Nat.zero_le _
  | n, d :: ds, h => by
    show max d.depth (PyData.depthAll ds) ≤ n
    exact Nat.max_le.mpr ⟨h d List.mem_cons_self, deep_flat n ds fun e he => h e (List.mem_cons_of_mem _ he)⟩
theorem row_lay {p : Str × Int} (h : ∀ c ∈ cds p.1, c < 128) : (rowD p).canLay0 = true := by
  have e : PyData.canLay0 (.str p.1) = true := by
    show p.1.cps.all (· < 0x110000) = true
    rw [Array.all_eq_true_iff_forall_mem]
    intro c hc
    have := h c (Array.mem_toList_iff.mpr hc)
    exact decide_eq_true (by omega)
  show (PyData.canLay0 (.str p.1) && (true && true)) = true
  rw [e]
  rfl
theorem row_lays {l : Row} (h : Pl l) : (PyData.tuple (rowsD l)).canLay0 = true := lay_flat _ fun d hd => by
  obtain ⟨p, hp, rfl⟩ := List.mem_map.mp hd
  exact row_lay (h p hp)
theorem row_deep (l : Row) : (PyData.tuple (rowsD l)).depth ≤ 2 := by
  show PyData.depthAll (rowsD l) + 1 ≤ 2
  have := deep_flat 1 (rowsD l) fun d hd => by
    obtain ⟨p, _, rfl⟩ := List.mem_map.mp hd
    exact Nat.le_refl 1
  omega
theorem shaped_row {l : Row} (h : Pl l) : SeqAt.shaped (.tuple (rowsD l)) = true := by
  unfold SeqAt.shaped
  rw [Bool.and_eq_true]
  exact ⟨row_lays h, decide_eq_true (Nat.le_trans (row_deep l) (by decide))⟩
theorem eqv_nil : ∀ l : Row, PyData.eqv (.tuple (rowsD l)) (.tuple []) = decide (l = [])
  | [] => rfl
  | _ :: _ => rfl
theorem pl_push {p : Str × Int} {l : Row} (hp : ∀ c ∈ cds p.1, c < 128) (h : Pl l) : Pl (Wm.push p l) := by
  intro q hq
  cases l with
  | nil =>
    have hq' : q ∈ (if p.2 = 0 then ([] : Row) else [p]) := hq
    split at hq'
    · cases hq'
    · rw [List.mem_singleton.mp hq']
      exact hp
  | cons u t =>
    have hq' : q ∈ (if p.2 = 0 then u :: t else if u.1 = p.1 then (if u.2 + p.2 = 0 then t else (u.1, u.2 + p.2) :: t) else p :: u :: t) := hq
    split at hq'
    · exact h q hq'
    · split at hq'
      · split at hq'
        · exact h q (List.mem_cons_of_mem _ hq')
        · rcases List.mem_cons.mp hq' with rfl | hq'
          · exact h u List.mem_cons_self
          · exact h q (List.mem_cons_of_mem _ hq')
      · rcases List.mem_cons.mp hq' with rfl | hq'
        · exact hp
        · exact h q hq'
theorem pl_joint : ∀ {l r : Row}, Pl r → Pl l → Pl (Wm.joint r l)
  | [], _, h, _ => h
  | p :: l, r, h, hl => pl_joint (l := l) (pl_push (hl p List.mem_cons_self) h) fun q hq => hl q (List.mem_cons_of_mem _ hq)
theorem pl_rev {l : Row} (h : Pl l) : Pl l.reverse := fun p hp => h p (List.mem_reverse.mp hp)
theorem pl_undo {l : Row} (h : Pl l) : Pl (undo l) := fun p hp => by
  rw [undo_eq] at hp
  obtain ⟨q, hq, rfl⟩ := List.mem_map.mp hp
  exact h q (List.mem_reverse.mp hq)
/-- one more run behind a row, forward -/
def putL (l : Row) (p : Str × Int) : Row := (Wm.push p l.reverse).reverse
def jointL (l k : Row) : Row := (Wm.joint l.reverse k).reverse
theorem jointL_cons (l : Row) (p : Str × Int) (k : Row) : jointL l (p :: k) = jointL (putL l p) k := by
  unfold jointL putL
  rw [List.reverse_reverse]
  rfl
theorem jointL_take {l k : Row} {i : Nat} {p : Str × Int} (h : k[i]? = some p) : jointL l (k.take (i + 1)) = putL (jointL l (k.take i)) p := by
  unfold jointL putL
  rw [List.take_add_one, h, List.reverse_reverse, Wm.joint_app]
  rfl
theorem jointL_len (l k : Row) : (jointL l k).length ≤ l.length + k.length := by
  unfold jointL
  rw [List.length_reverse]
  have := joint_len k l.reverse
  rw [List.length_reverse] at this
  exact this
theorem six_last (n d : Nat) : HT.sIx n d (some (-1)) = ((-1 : Int) + (n : Int)).toNat := by
  show (if (-1 : Int) < 0 then ((-1 : Int) + (n : Int)).toNat else min (-1 : Int).toNat n) = _
  exact if_pos (by decide)
theorem cut_last (xs : List V) (z : V) : cutV (xs ++ [z]) none (some (-1)) = xs := by
  unfold cutV
  have e1 : HT.sIx (xs ++ [z]).length 0 none = 0 := rfl
  have e2 : HT.sIx (xs ++ [z]).length (xs ++ [z]).length (some (-1)) = xs.length := by
    rw [six_last, List.length_append, List.length_singleton]
    omega
  rw [e1, e2, List.drop_zero, Nat.sub_zero, List.take_left]
section
variable {P : Program} {w : World} {K : PySem.W.Frag} {mg : Str → Option Value} {base : Heap}
theorem SqT.of_row {H H' : Hp} {a : Addr} {ys : List V} (s : Same H H') (h : SqT K H a ys) : SqT K H' a ys := by
  rcases h with h | h
  · rcases h with h | ⟨o, h⟩
    · exact .inl (.inl (s _ _ h))
    · exact .inl (.inr ⟨o, s _ _ h⟩)
  · exact .inr h
theorem each_split {α β : Type} {R : α → β → Prop} {c : β} : ∀ {ys : List α} {l : List β}, PySem.W.EachIs R ys (l ++ [c]) → ∃ ys' y, ys = ys' ++ [y] ∧ PySem.W.EachIs R ys' l ∧ R y c
  | _, [], h => by
    cases h with
    | cons r h =>
      cases h
      exact ⟨[], _, rfl, .nil, r⟩
  | _, b :: l, h => by
    cases h with
    | cons r h =>
      obtain ⟨ys', y, rfl, h1, h2⟩ := each_split h
      exact ⟨_ :: ys', y, rfl, .cons r h1, h2⟩
/-- a row with one run written behind it -/
theorem cat_one {H : Hp} {a : Addr} {l : Row} {x : Str} {m : Int} {Q : VK} (hr : TupRow K H a l) (hl : l.length ≤ 1000000) (q : ∀ p H', Same H H' → TupRow K H' p (l ++ [(x, m)]) → Q (.ref p) H') {pt pq : Addr} (npt : H pt = none)
    (npq : (upd H pt (.tup [.str x, .int m])) pq = none) : rCatRow K (.ref a) (.ref pq) (upd (upd H pt (.tup [.str x, .int m])) pq (.tup [.ref pt])) Q := by
  have s1 := same_upd (o := .tup [.str x, .int m]) npt
  have s2 := same_upd (o := .tup [.ref pt]) npq
  refine ⟨a, pq, l, [(x, m)], rfl, rfl, hr.same (s1.trans s2), .new upd_same (.cons ⟨pt, rfl, s2 _ _ upd_same⟩ .nil), ?_, fun p H' s h => q p H' ((s1.trans s2).trans s) h⟩
  rw [List.length_singleton]
  omega
theorem putL_nil {p : Str × Int} (h : p.2 ≠ 0) : putL [] p = [p] := by
  unfold putL
  have : Wm.push p ([] : Row) = [p] := if_neg h
  show (Wm.push p []).reverse = [p]
  rw [this]
  rfl
theorem putL_last {l : Row} {c p : Str × Int} (h : p.2 ≠ 0) : putL (l ++ [c]) p = if c.1 = p.1 then (if c.2 + p.2 = 0 then l else l ++ [(c.1, c.2 + p.2)]) else l ++ [c] ++ [p] := by
  unfold putL
  rw [List.reverse_append]
  show (if p.2 = 0 then c :: l.reverse else if c.1 = p.1 then (if c.2 + p.2 = 0 then l.reverse else (c.1, c.2 + p.2) :: l.reverse) else p :: c :: l.reverse).reverse = _
  rw [if_neg h]
  split
  · split
    · rw [List.reverse_reverse]
    · rw [List.reverse_cons, List.reverse_reverse]
  · rw [List.reverse_cons, List.reverse_cons, List.reverse_reverse]
def spPut (K : PySem.W.Frag) : Sp := fun vs H Q _ => ∃ (a : Addr) (l : Row) (x : Str) (n : Int), vs = [.ref a, .str x, .int n] ∧ TupRow K H a l ∧ l.length ≤ 1000000 ∧ Pl l ∧ ∀ p H', Same H H' → TupRow K H' p (putL l (x, n)) → Q (.ref p) H'
theorem scPut : FnScope ["_law_row_here", "_law_sign", "_law_much", "_law_both"] ["_law_row_here", "_law_sign", "_law_much"] (defScope sPut) := ⟨rfl, rfl, rfl, by decide +kernel, rfl, by decide +kernel, by decide +kernel⟩
theorem ok_put {f : Addr} {fd : FuncData} (F : Fun K "_law_put_row" "_law_put_row" sPut f fd) (T : Txt K mg) : FnOk P w K mg base CX0 1 f fd ["_law_row_here", "_law_sign", "_law_much"] (spPut K) := by
  refine F.ok scPut (fun vs H Q E h => ?_) (fun cdv A outer s H vs Q E hr h => ?_)
  · obtain ⟨a, l, x, n, rfl, _⟩ := h
    rfl
  · obtain ⟨a, l, x, n, rfl, ⟨ys, ha, hp⟩, hl, hpl, q⟩ := h
    refine ⟨_, pss_cons (ps_if (pt_cmpR op_eq (pv 2) pe_int (nomark _)) (pss_one (ps_ret (pv 0))) pss_nil)
      (pss_cons (ps_if (PW.pt (pw_or (pt_cmpR (op_eqD hr.units) (pv 0) (pe_tup pa_nil) (nomark _)) (pw_or1 (pt_cmpR op_ne (pe_ix ix_tup (pe_ix ix_tup (pv 0) (pe_un un_neg pe_int) (fun _ _ => rfl)) pe_int (fun _ _ => rfl)) (pv 1) (nomark _)))))
          (pss_one (ps_ret (pe_op op_catRow (pv 0) (pe_tup (pa_cons (pe_tup (pa_cons (pv 1) (pa_cons (pv 2) pa_nil))) pa_nil))))) pss_nil)
      (pss_cons (ps_set (i := 3) scPut.nd rfl (Or.inl rfl) (pe_op op_add (pe_ix ix_tup (pe_ix ix_tup (pv 0) (pe_un un_neg pe_int) (fun _ _ => rfl)) pe_int (fun _ _ => rfl)) (pv 2)))
      (pss_one (ps_ret (pe_ifExp (pt_cmpR op_ne (pv 3) pe_int (nomark _)) (pe_op op_catRow (pe_slice sl_tupA (pv 0) po_none (po_some (pe_un un_neg pe_int))) (pe_tup (pa_cons (pe_tup (pa_cons (pv 1) (pa_cons (pv 3) pa_nil))) pa_nil)))
          (pe_slice sl_tupA (pv 0) po_none (po_some (pe_un un_neg pe_int)))))))), ?_⟩
    have hrow : TupRow K H a l := ⟨ys, ha, hp⟩
    refine ⟨_, rfl, rfl, _, rfl, ?_⟩
    rw [dec_int]
    by_cases hn : n = 0
    · have e : (n == 0) = true := beq_iff_eq.mpr hn
      rw [e]
      refine iteT ⟨_, rfl, q a H (Same.refl H) ?_⟩
      unfold putL
      rw [hn, Wm.push_zero, List.reverse_reverse]
      exact hrow
    · have e : (n == 0) = false := beq_eq_false_iff_ne.mpr hn
      rw [e]
      refine iteF ?_
      refine ⟨_, rfl, by decide, fun pe npe => ?_⟩
      have s1 := same_upd (o := .tup []) npe
      refine ⟨.tuple (rowsD l), .tuple [], .tup (K4.SqT.of_row s1 ha) (rows_all (PairsAt.same s1 hp)), .tup (SqT.of upd_same) .nil, shaped_row hpl, by decide +kernel, _, rfl, ?_⟩
      rw [eqv_nil]
      have hrow1 := hrow.same s1
      have q1 := fun p H' s' h' => q p H' (s1.trans s') h'
      generalize upd H pe (.tup []) = H1 at hrow1 q1 ⊢
      rcases List.eq_nil_or_concat l with rfl | ⟨l', c, rfl⟩
      · rw [decide_eq_true rfl]
        rw [putL_nil hn] at q1
        refine iteT ⟨_, rfl, _, rfl, _, rfl, by show 2 ≤ sizeLine; decide, fun pt npt => ⟨by show 1 ≤ sizeLine; decide, fun pq npq => ?_⟩⟩
        exact cat_one hrow1 (Nat.zero_le _) q1 npt npq
      · rw [List.concat_eq_append] at *
        rw [putL_last hn] at q1
        rw [decide_eq_false (by simp)]
        obtain ⟨ys1, ha1, hp1⟩ := hrow1
        obtain ⟨ys', y, rfl, hp', t, rfl, et⟩ := each_split hp1
        have hll : l'.length + 1 ≤ 1000000 := by
          rw [List.length_append, List.length_singleton] at hl
          exact hl
        refine iteF ⟨_, rfl, _, rfl, a, _, _, .ref t, rfl, rfl, ha1, atI_last _ _, t, _, _, .str c.1, rfl, rfl, SqT.of et, rfl, _, rfl, rfl, _, rfl, ?_⟩
        have hs : decide (V.str c.1 = V.str x) = decide (c.1 = x) := decide_eq_decide.mpr ⟨fun e => by injection e, fun e => by rw [e]⟩
        rw [hs]
        by_cases hc : c.1 = x
        · rw [decide_eq_true hc]
          rw [if_pos hc] at q1
          refine iteF ?_
          refine ⟨_, rfl, _, rfl, a, _, _, .ref t, rfl, rfl, ha1, atI_last _ _, t, _, _, .int c.2, rfl, rfl, SqT.of et, rfl, _, rfl, _, _, rfl, rfl, ?_⟩
          refine ⟨_, rfl, rfl, _, rfl, ?_⟩
          rw [dec_int]
          have hcut : ¬ (HT.sIx (ys' ++ [V.ref t]).length 0 none = 0 ∧ HT.sIx (ys' ++ [V.ref t]).length (ys' ++ [V.ref t]).length (some (-1)) = (ys' ++ [V.ref t]).length) := by
            rw [six_last, List.length_append, List.length_singleton]
            omega
          by_cases h0 : c.2 + n = 0
          · have eb : (!(c.2 + n == 0)) = false := by rw [h0]; rfl
            rw [eb]
            rw [if_pos h0] at q1
            refine iteF ⟨_, rfl, _, rfl, _, rfl, a, _, rfl, ha1, fun z => absurd z hcut, fun _ p np => ?_⟩
            rw [cut_last]
            exact q1 p _ (same_upd np) (.new upd_same (PairsAt.same (same_upd np) hp'))
          · have eb : (!(c.2 + n == 0)) = true := by rw [beq_eq_false_iff_ne.mpr h0]; rfl
            rw [eb]
            rw [if_neg h0] at q1
            refine iteT ⟨_, rfl, _, rfl, _, rfl, a, _, rfl, ha1, fun z => absurd z hcut, fun _ p np => ?_⟩
            rw [cut_last]
            refine ⟨_, rfl, _, rfl, by show 2 ≤ sizeLine; decide, fun pt npt => ⟨by show 1 ≤ sizeLine; decide, fun pq npq => ?_⟩⟩
            rw [hc] at q1
            exact cat_one (.new upd_same (PairsAt.same (same_upd np) hp')) (by omega) (fun p' H' s' h' => q1 p' H' ((same_upd np).trans s') h') npt npq
        · rw [decide_eq_false hc]
          rw [if_neg hc] at q1
          refine iteT ⟨_, rfl, _, rfl, _, rfl, by show 2 ≤ sizeLine; decide, fun pt npt => ⟨by show 1 ≤ sizeLine; decide, fun pq npq => ?_⟩⟩
          exact cat_one ⟨_, ha1, hp1⟩ (by rw [List.length_append, List.length_singleton]; exact hll) q1 npt npq
end
end K4

set_option Elab.async false
set_option linter.all false
set_option maxRecDepth 100000
set_option maxHeartbeats 3200000
namespace K4
open PySem L2 Tx Tg Tm
theorem pl_jointL {l k : Row} (hl : Pl l) (hk : Pl k) : Pl (jointL l k) := pl_rev (pl_joint (pl_rev hl) hk)
theorem pl_take {l : Row} (h : Pl l) (i : Nat) : Pl (l.take i) := fun p hp => h p (List.mem_of_mem_take hp)
def swapL (l k : Row) : Row := jointL (jointL l k) (jointL (undo l) (undo k))
def repL (again : Row) : Nat → Row
  | 0 => []
  | n + 1 => jointL (repL again n) again
theorem pl_repL {l : Row} (h : Pl l) : ∀ n, Pl (repL l n)
  | 0 => fun p hp => by cases hp
  | n + 1 => pl_jointL (pl_repL h n) h
theorem repL_len (l : Row) : ∀ n, (repL l n).length ≤ n * l.length
  | 0 => Nat.zero_le _
  | n + 1 => by
    have h1 := jointL_len (repL l n) l
    have h2 := repL_len l n
    show (jointL (repL l n) l).length ≤ _
    rw [Nat.add_mul, Nat.one_mul]
    omega
def brackL (l k : Row) : Row := rowOf (l ++ k ++ undo l ++ undo k)
section
variable {P : Program} {w : World} {K : PySem.W.Frag} {mg : Str → Option Value} {base : Heap}
def spRow2 (K : PySem.W.Frag) (B : Nat) (g : Row → Row → Row) : Sp := fun vs H Q _ => ∃ (a b : Addr) (l k : Row), vs = [.ref a, .ref b] ∧ TupRow K H a l ∧ TupRow K H b k ∧ l.length ≤ B ∧ k.length ≤ B ∧ Pl l ∧ Pl k ∧ ∀ p H', Same H H' → TupRow K H' p (g l k) → Q (.ref p) H'
theorem scLJoint : FnScope ["_law_row_here", "_law_other", "_law_sign", "_law_much"] ["_law_row_here", "_law_other"] (defScope sLJoint) := ⟨rfl, rfl, rfl, by decide +kernel, rfl, by decide +kernel, by decide +kernel⟩
theorem ok_ljoint {f fP : Addr} {fd fdP : FuncData} (F : Fun K "_law_joint" "_law_joint" sLJoint f fd) (T : Txt K mg) (DP : Df K mg "_law_put_row" sPut ["_law_row_here", "_law_sign", "_law_much"] fP fdP) :
    FnOk P w K mg base CX0 2 f fd ["_law_row_here", "_law_other"] (spRow2 K 100000 jointL) := by
  have G := ok_put (P := P) (w := w) (base := base) DP.F T
  refine F.ok scLJoint (fun vs H Q E h => ?_) (fun cdv A outer s H vs Q E hr h => ?_)
  · obtain ⟨a, b, l, k, rfl, _⟩ := h
    rfl
  · obtain ⟨a, b, l, k, rfl, ha, ⟨ys, hb, hp⟩, hl, hk, pl, pk, q⟩ := h
    refine ⟨_, pss_cons (ps_for PassesOwn.never rfl (pi_tup (pv 1)) (pg_tup rfl (pgs_cons (pg_name (i := 2) scLJoint.nd rfl (Or.inl rfl)) (pgs_cons (pg_name (i := 3) scLJoint.nd rfl (Or.inl rfl)) pgs_nil)))
        (pss_one (ps_set (i := 0) scLJoint.nd rfl (Or.inl rfl) (pe_call G hr (by rfl) DP.m DP.F.kp DP.b .nil pass0 (pa_cons (pv 0) (pa_cons (pv 2) (pa_cons (pv 3) pa_nil)))))))
      (pss_one (ps_ret (pv 0))), ?_⟩
    have hlen : ys.length = k.length := hp.length
    refine ⟨_, rfl, b, rfl, ⟨_, hb⟩, ?_⟩
    refine for_tup (xs := ys) (fun i σ H1 => ∃ (a' : Addr) (t2 t3 : Option V), σ = [some (.ref a'), some (.ref b), t2, t3] ∧ Same H H1 ∧ TupRow K H1 a' (jointL l (k.take i)))
      ⟨a, none, none, rfl, Same.refl H, by
        rw [List.take_zero]
        show TupRow K H a (l.reverse.reverse)
        rw [List.reverse_reverse]
        exact ha⟩ (fun i σ H1 _ z => by obtain ⟨_, _, _, _, s, _⟩ := z; exact K4.SqT.of_row s hb) ?_ ?_
    · rintro i x σ H1 hx ⟨a', t2, t3, rfl, s1, hr1⟩
      have hi := (List.getElem?_eq_some_iff.mp hx).1
      have hi' : i < k.length := by omega
      obtain ⟨t, rfl, et⟩ : PairAt H x k[i] := hp.zip (x, k[i]) (List.mem_of_getElem? (i := i) (by rw [List.getElem?_zip_eq_some]; exact ⟨hx, List.getElem?_eq_getElem hi'⟩))
      have hjl := jointL_len l (k.take i)
      rw [List.length_take] at hjl
      refine ⟨t, _, rfl, SqT.of (s1 _ _ et), rfl, _, _, rfl, _, _, rfl, rfl, ?_⟩
      refine ⟨_, rfl, _, rfl, _, rfl, a', _, _, _, rfl, hr1, by omega, pl_jointL pl (pl_take pk i), fun p H2 s2 hr2 => ?_⟩
      refine ⟨p, _, _, rfl, s1.trans s2, ?_⟩
      rw [jointL_take (List.getElem?_eq_getElem hi')]
      exact hr2
    · rintro σ H1 ⟨a', t2, t3, rfl, s1, hr1⟩
      have et : k.take ys.length = k := List.take_of_length_le (by omega)
      rw [et] at hr1
      exact ⟨_, rfl, q a' _ s1 hr1⟩
theorem scSwap : FnScope ["_law_row_here", "_law_other"] ["_law_row_here", "_law_other"] (defScope sSwap) := ⟨rfl, rfl, rfl, by decide +kernel, rfl, by decide +kernel, by decide +kernel⟩
theorem ok_swap {f fJ fU : Addr} {fd fdJ fdU : FuncData} (F : Fun K "_law_swapped" "_law_swapped" sSwap f fd) (T : Txt K mg) (DJ : Df K mg "_law_joint" sLJoint ["_law_row_here", "_law_other"] fJ fdJ) (GJ : FnOk P w K mg base CX0 2 fJ fdJ ["_law_row_here", "_law_other"] (spRow2 K 100000 jointL))
    (DU : Df K mg "_law_undone" sLUndone ["_law_row_here"] fU fdU) : FnOk P w K mg base CX0 3 f fd ["_law_row_here", "_law_other"] (spRow2 K 10000 swapL) := by
  have GU := ok_lundone (P := P) (w := w) (base := base) DU.F T
  refine F.ok scSwap (fun vs H Q E h => ?_) (fun cdv A outer s H vs Q E hr h => ?_)
  · obtain ⟨a, b, l, k, rfl, _⟩ := h
    rfl
  · obtain ⟨a, b, l, k, rfl, ha, hb, hl, hk, pl, pk, q⟩ := h
    have r1 : Room 1 _ := hr.mono (by decide)
    refine ⟨_, pss_one (ps_ret (pe_call GJ hr (by rfl) DJ.m DJ.F.kp DJ.b .nil pass0 (pa_cons (pe_call GJ hr (by rfl) DJ.m DJ.F.kp DJ.b .nil pass0 (pa_cons (pv 0) (pa_cons (pv 1) pa_nil)))
      (pa_cons (pe_call GJ hr (by rfl) DJ.m DJ.F.kp DJ.b .nil pass0 (pa_cons (pe_call GU r1 (by rfl) DU.m DU.F.kp DU.b .nil pass0 (pa_cons (pv 0) pa_nil)) (pa_cons (pe_call GU r1 (by rfl) DU.m DU.F.kp DU.b .nil pass0 (pa_cons (pv 1) pa_nil)) pa_nil))) pa_nil)))), ?_⟩
    refine ⟨_, rfl, _, rfl, a, b, l, k, rfl, ha, hb, by omega, by omega, pl, pk, fun p1 H1 s1 h1 => ?_⟩
    refine ⟨_, rfl, a, l, rfl, ha.same s1, by omega, fun p2 H2 s2 h2 => ?_⟩
    refine ⟨_, rfl, b, k, rfl, hb.same (s1.trans s2), by omega, fun p3 H3 s3 h3 => ?_⟩
    have j1 := jointL_len l k
    have j2 := jointL_len (undo l) (undo k)
    rw [undo_len, undo_len] at j2
    refine ⟨p2, p3, _, _, rfl, h2.same s3, h3, by rw [undo_len]; omega, by rw [undo_len]; omega, pl_undo pl, pl_undo pk, fun p4 H4 s4 h4 => ?_⟩
    refine ⟨p1, p4, _, _, rfl, h1.same ((s2.trans s3).trans s4), h4, by omega, by omega, pl_jointL pl pk, pl_jointL (pl_undo pl) (pl_undo pk), fun p5 H5 s5 h5 => ?_⟩
    exact q p5 H5 ((((s1.trans s2).trans s3).trans s4).trans s5) h5
theorem scBracket : FnScope ["one", "other"] ["one", "other"] (defScope sBracket) := ⟨rfl, rfl, rfl, by decide +kernel, rfl, by decide +kernel, by decide +kernel⟩
theorem ok_bracket {f fJ fU : Addr} {fd fdJ fdU : FuncData} (F : Fun K "bracket_runs" "bracket_runs" sBracket f fd) (T : Txt K mg) (DJ : Df K mg "joined_runs" sJoin ["pairs"] fJ fdJ) (DU : Df K mg "undone_runs" sUndo ["runs"] fU fdU) :
    FnOk P w K mg base CX0 2 f fd ["one", "other"] (spRow2 K 100000 brackL) := by
  have GJ := ok_join' (P := P) (w := w) (base := base) DJ.F T
  have GU := ok_undone (P := P) (w := w) (base := base) DU.F T
  refine F.ok scBracket (fun vs H Q E h => ?_) (fun cdv A outer s H vs Q E hr h => ?_)
  · obtain ⟨a, b, l, k, rfl, _⟩ := h
    rfl
  · obtain ⟨a, b, l, k, rfl, ha, hb, hl, hk, pl, pk, q⟩ := h
    refine ⟨_, pss_one (ps_ret (pe_call GJ hr (by rfl) DJ.m DJ.F.kp DJ.b .nil pass0 (pa_cons (pe_op op_catRow (pe_op op_catRow (pe_op op_catRow (pv 0) (pv 1))
      (pe_call GU hr (by rfl) DU.m DU.F.kp DU.b .nil pass0 (pa_cons (pv 0) pa_nil))) (pe_call GU hr (by rfl) DU.m DU.F.kp DU.b .nil pass0 (pa_cons (pv 1) pa_nil))) pa_nil))), ?_⟩
    refine ⟨_, rfl, _, rfl, a, b, l, k, rfl, rfl, ha, hb, by omega, fun p1 H1 s1 h1 => ?_⟩
    refine ⟨_, rfl, a, l, rfl, ha.same s1, by omega, fun p2 H2 s2 h2 => ?_⟩
    refine ⟨p1, p2, _, _, rfl, rfl, h1.same s2, h2, by rw [List.length_append, undo_len]; omega, fun p3 H3 s3 h3 => ?_⟩
    refine ⟨_, rfl, b, k, rfl, hb.same ((s1.trans s2).trans s3), by omega, fun p4 H4 s4 h4 => ?_⟩
    have hlen : (l ++ k ++ undo l).length + (undo k).length ≤ 400000 := by
      rw [List.length_append, List.length_append, undo_len, undo_len]
      omega
    refine ⟨p3, p4, _, _, rfl, rfl, h3.same s4, h4, by omega, fun p5 H5 s5 h5 => ?_⟩
    refine ⟨p5, _, rfl, h5, by rw [List.length_append]; omega, fun p6 H6 s6 h6 => ?_⟩
    exact q p6 H6 (((((s1.trans s2).trans s3).trans s4).trans s5).trans s6) h6
theorem scRep : FnScope ["_law_row_here", "_law_much", "_law_found", "_law_again", "_law_turn"] ["_law_row_here", "_law_much"] (defScope sRep) := ⟨rfl, rfl, rfl, by decide +kernel, rfl, by decide +kernel, by decide +kernel⟩
def spRep (K : PySem.W.Frag) : Sp := fun vs H Q _ => ∃ (a : Addr) (l : Row) (m : Int), vs = [.ref a, .int m] ∧ TupRow K H a l ∧ l.length ≤ 100 ∧ Pl l ∧ m.natAbs ≤ 400 ∧ ∀ p H', Same H H' → TupRow K H' p (repL (if m > 0 then l else undo l) m.natAbs) → Q (.ref p) H'
theorem read_again {σ : L2.St} {H : Hp} {a : Addr} {l : Row} {m : Int} {R : V → Hp → Prop} (h0 : σ[0]? = some (some (.ref a))) (h1 : σ[1]? = some (some (.int m))) (ha : TupRow K H a l) (hl : l.length ≤ 1000000)
    (h : ∀ b H', Same H H' → TupRow K H' b (if m > 0 then l else undo l) → R (.ref b) H') :
    tIf (tTest (tOp (rI0 fun i j => V.bl (decide (i > j))) (tVar 1) (tC (.int 0)))) (tVar 0) (tCall (spRow1 K undo) [] E0 (tCons (tVar 0) tNil)) σ H R := by
  refine ⟨_, h1, _, _, rfl, rfl, _, rfl, ?_⟩
  by_cases hm : m > 0
  · rw [decide_eq_true hm]
    rw [if_pos hm] at h
    exact iteT ⟨_, h0, h a H (Same.refl H) ha⟩
  · rw [decide_eq_false hm]
    rw [if_neg hm] at h
    exact iteF ⟨_, h0, a, l, rfl, ha, hl, fun p H' s hp => h p H' s hp⟩
theorem ok_rep {f fJ fU : Addr} {fd fdJ fdU : FuncData} (F : Fun K "_law_repeated" "_law_repeated" sRep f fd) (T : Txt K mg) (DJ : Df K mg "_law_joint" sLJoint ["_law_row_here", "_law_other"] fJ fdJ) (GJ : FnOk P w K mg base CX0 2 fJ fdJ ["_law_row_here", "_law_other"] (spRow2 K 100000 jointL))
    (DU : Df K mg "_law_undone" sLUndone ["_law_row_here"] fU fdU) : FnOk P w K mg base CX0 3 f fd ["_law_row_here", "_law_much"] (spRep K) := by
  have GU := ok_lundone (P := P) (w := w) (base := base) DU.F T
  refine F.ok scRep (fun vs H Q E h => ?_) (fun cdv A outer s H vs Q E hr h => ?_)
  · obtain ⟨a, l, m, rfl, _⟩ := h
    rfl
  · obtain ⟨a, l, m, rfl, ha, hl, pl, hm, q⟩ := h
    have r1 : Room 1 _ := hr.mono (by decide)
    refine ⟨_, pss_cons (ps_par (i := 2) (j := 3) (by rfl) scRep.nd rfl rfl (by decide) rfl rfl (pa_cons (pe_tup pa_nil) (pa_cons (pe_ifExp (pt_cmpR op_gt (pv 1) pe_int (nomark _)) (pv 0) (pe_call GU r1 (by rfl) DU.m DU.F.kp DU.b .nil pass0 (pa_cons (pv 0) pa_nil))) pa_nil)) (by rfl))
      (pss_cons (ps_for PassesOwn.never rfl (pi_range1 rfl T.range (pa_cons (pe_callB call_abs (by rfl) T.abs (by decide +kernel) (pa_cons (pv 1) pa_nil)) pa_nil)) (pg_name (i := 4) scRep.nd rfl (Or.inl rfl))
        (pss_one (ps_set (i := 2) scRep.nd rfl (Or.inl rfl) (pe_call GJ hr (by rfl) DJ.m DJ.F.kp DJ.b .nil pass0 (pa_cons (pv 2) (pa_cons (pv 3) pa_nil))))))
      (pss_one (ps_ret (pv 2)))), ?_⟩
    refine ⟨by decide, fun pe npe => ?_⟩
    have s0 := same_upd (o := .tup []) npe
    have he : TupRow K (upd H pe (.tup [])) pe [] := .new upd_same .nil
    have ha0 := ha.same s0
    generalize upd H pe (.tup []) = H0 at s0 he ha0 ⊢
    refine read_again (a := a) (l := l) (m := m) rfl rfl ha0 (by omega) fun b H1 s1 hb => ?_
    refine ⟨_, _, rfl, _, rfl, _, rfl, ?_⟩
    have eabs : (if m < 0 then -m else m) = ((m.natAbs : Nat) : Int) := by split <;> omega
    rw [eabs]
    have again : (if m > 0 then l else undo l).length ≤ 100 ∧ Pl (if m > 0 then l else undo l) := by
      split
      · exact ⟨hl, pl⟩
      · exact ⟨by rw [undo_len]; exact hl, pl_undo pl⟩
    generalize (if m > 0 then l else undo l) = w1 at hb q again
    obtain ⟨again, plw⟩ := again
    refine ⟨_, rfl, by omega, by omega, for_range (n := m.natAbs) (fun i σ H2 => ∃ (p : Addr) (t4 : Option V), σ = [some (.ref a), some (.int m), some (.ref p), some (.ref b), t4] ∧ Same H1 H2 ∧ TupRow K H2 p (repL w1 i)) ⟨pe, none, rfl, Same.refl _, he.same s1⟩ ?_ ?_⟩
    · rintro i σ H2 hi ⟨p, t4, rfl, s2, hp⟩
      have hrl := repL_len w1 i
      have hmul : i * w1.length ≤ 400 * 100 := Nat.mul_le_mul (by omega) again
      refine ⟨_, rfl, _, rfl, p, b, _, _, rfl, hp, hb.same s2, by omega, by omega, pl_repL plw i, plw, fun p3 H3 s3 h3 => ?_⟩
      exact ⟨p3, _, rfl, s2.trans s3, h3⟩
    · rintro σ H2 ⟨p, t4, rfl, s2, hp⟩
      exact ⟨_, rfl, q p H2 ((s0.trans s1).trans s2) hp⟩
end
end K4

set_option Elab.async false
set_option linter.all false
set_option maxRecDepth 100000
set_option maxHeartbeats 3200000
namespace K4
open PySem L2 Tx Tg Tm
theorem push_mem {p q : Str × Int} {l : Row} (h : q ∈ Wm.push p l) : q ∈ l ∨ q = p ∨ ∃ u ∈ l, q = (u.1, u.2 + p.2) := by
  cases l with
  | nil =>
    have h' : q ∈ (if p.2 = 0 then ([] : Row) else [p]) := h
    split at h'
    · cases h'
    · exact .inr (.inl (List.mem_singleton.mp h'))
  | cons u t =>
    have h' : q ∈ (if p.2 = 0 then u :: t else if u.1 = p.1 then (if u.2 + p.2 = 0 then t else (u.1, u.2 + p.2) :: t) else p :: u :: t) := h
    split at h'
    · exact .inl h'
    · split at h'
      · split at h'
        · exact .inl (List.mem_cons_of_mem _ h')
        · rcases List.mem_cons.mp h' with h' | h'
          · exact .inr (.inr ⟨u, List.mem_cons_self, h'⟩)
          · exact .inl (List.mem_cons_of_mem _ h')
      · rcases List.mem_cons.mp h' with h' | h'
        · exact .inr (.inl h')
        · exact .inl h'
/-- runs of these letters, exponents below a bound -/
def Ru (sg : Str) (B : Nat) (l : Row) : Prop := ∀ p ∈ l, (∃ c ∈ cds sg, p.1 = one c) ∧ p.2.natAbs ≤ B
theorem Ru.pl {sg : Str} {B : Nat} {l : Row} (hs : ∀ c ∈ cds sg, c < 128) (h : Ru sg B l) : Pl l := fun p hp c hc => by
  obtain ⟨⟨d, hd, e⟩, _⟩ := h p hp
  rw [e] at hc
  rw [List.mem_singleton.mp (show c ∈ [d] from hc)]
  exact hs d hd
theorem Ru.rev {sg : Str} {B : Nat} {l : Row} (h : Ru sg B l) : Ru sg B l.reverse := fun p hp => h p (List.mem_reverse.mp hp)
theorem Ru.push {sg : Str} {B C : Nat} {l : Row} {c : Nat} {n : Int} (h : Ru sg B l) (hc : c ∈ cds sg) (hn : n.natAbs ≤ C) : Ru sg (B + C) (Wm.push (one c, n) l) := fun q hq => by
  rcases push_mem hq with hq | rfl | ⟨u, hu, rfl⟩
  · exact ⟨(h q hq).1, by have := (h q hq).2; omega⟩
  · exact ⟨⟨c, hc, rfl⟩, show n.natAbs ≤ B + C by omega⟩
  · refine ⟨(h u hu).1, ?_⟩
    have := (h u hu).2
    show (u.2 + n).natAbs ≤ B + C
    omega
theorem push_len (p : Str × Int) (r : Row) : (Wm.push p r).length ≤ r.length + 1 := joint_len [p] r
theorem signs_plain {sg : Str} (h : Signs sg) : ∀ c ∈ cds sg, c < 128 := by
  rcases h with rfl | rfl | rfl | rfl <;> decide +kernel
theorem signs_len {sg : Str} (h : Signs sg) : 0 < sg.length ∧ sg.length < 100 := by
  rcases h with rfl | rfl | rfl | rfl <;> decide +kernel
section
variable {P : Program} {w : World} {K : PySem.W.Frag} {mg : Str → Option Value} {base : Heap}
def spMost : Sp := fun vs H Q _ => ∃ (n m : Int), vs = [.int n, .int m] ∧ n ≤ m ∧ Q .non H
theorem scMost : FnScope ["many", "limit"] ["many", "limit"] (defScope sMost) := ⟨rfl, rfl, rfl, by decide +kernel, rfl, by decide +kernel, by decide +kernel⟩
theorem ok_most {f : Addr} {fd : FuncData} (F : Fun K "check_most" "check_most" sMost f fd) (T : Txt K mg) : FnOk P w K mg base CX0 1 f fd ["many", "limit"] spMost := by
  refine F.ok scMost (fun vs H Q E h => ?_) (fun cdv A outer s H vs Q E hr h => ?_)
  · obtain ⟨n, m, rfl, _⟩ := h
    rfl
  · obtain ⟨n, m, rfl, hnm, q⟩ := h
    refine ⟨_, pss_one (ps_if (pt_cmpR op_gt (pv 0) (pv 1) (nomark _)) (pss_one ps_never) pss_nil), ?_⟩
    refine ⟨_, rfl, _, rfl, _, _, rfl, rfl, _, rfl, ?_⟩
    rw [decide_eq_false (by omega)]
    exact iteF q
theorem ten30 : (1 : Int) + 10 ^ 30 ≤ 10 ^ 31 := by decide +kernel
def spPower : Sp := fun vs H Q _ => ∃ (c : Addr) (m : Int), vs = [.ref c, .int m] ∧ Cup H c ∧ 0 < m ∧ m ≤ 100 ∧ ∀ (n : Int) H', n ≠ 0 → n.natAbs ≤ 10 ^ 31 → Cup H' c → But c H H' → Q (.int n) H'
theorem scPower : FnScope ["_law_cup_here", "_law_most", "_law_lot", "_law_found"] ["_law_cup_here", "_law_most"] (defScope sPower) := ⟨rfl, rfl, rfl, by decide +kernel, rfl, by decide +kernel, by decide +kernel⟩
theorem sm {m : Int} (h0 : 0 < m) (h : m ≤ 100) : m.natAbs < 2 ^ 9000 := Nat.lt_of_lt_of_le (show m.natAbs < 2 ^ 7 by omega) (Nat.pow_le_pow_right (by decide) (by decide))
theorem sm30 : ((10 : Int) ^ 30).natAbs < 2 ^ 9000 := Nat.lt_of_lt_of_le (show ((10 : Int) ^ 30).natAbs < 2 ^ 100 by decide +kernel) (Nat.pow_le_pow_right (by decide) (by decide))
theorem ok_power {f fB : Addr} {fd fdB : FuncData} (F : Fun K "_law_power" "_law_power" sPower f fd) (T : Txt K mg) (DB : Df K mg "_law_bit" sBit ["_law_cup_here", "_law_much"] fB fdB) : FnOk P w K mg base CX0 2 f fd ["_law_cup_here", "_law_most"] spPower := by
  have G := ok_bit (P := P) (w := w) (base := base) DB.F T
  refine F.ok scPower (fun vs H Q E h => ?_) (fun cdv A outer s H vs Q E hr h => ?_)
  · obtain ⟨c, m, rfl, _⟩ := h
    rfl
  · obtain ⟨c, m, rfl, hc, m0, m1, q⟩ := h
    refine ⟨_, pss_cons (ps_set (i := 2) scPower.nd rfl (Or.inl rfl) (pe_call G hr (by rfl) DB.m DB.F.kp DB.b .nil pass0 (pa_cons (pv 0) (pa_cons pe_int pa_nil))))
      (pss_cons (ps_set (i := 3) scPower.nd rfl (Or.inl rfl) (pe_ifExp (pt_cmpR op_lt (pv 2) pe_int (nomark _)) (pe_op op_add pe_int (pe_call G hr (by rfl) DB.m DB.F.kp DB.b .nil pass0 (pa_cons (pv 0) (pa_cons (pv 1) pa_nil))))
          (pe_op op_add pe_int (pe_call G hr (by rfl) DB.m DB.F.kp DB.b .nil pass0 (pa_cons (pv 0) (pa_cons (pe_op op_pow pe_int pe_int) pa_nil))))))
      (pss_one (ps_ret (pe_ifExp (pt_cmpR op_eq (pe_call G hr (by rfl) DB.m DB.F.kp DB.b .nil pass0 (pa_cons (pv 0) (pa_cons pe_int pa_nil))) pe_int (nomark _)) (pv 3) (pe_op op_sub pe_int (pv 3)))))), ?_⟩
    have t31 : (10 : Int) ^ 31 = ((10 ^ 31 : Nat) : Int) := by norm_cast
    have last : ∀ (σ : L2.St) (H1 : Hp) (n : Int) (lot : Int), 0 < n → n ≤ 10 ^ 31 → Cup H1 c → But c H H1 → σ = [some (.ref c), some (.int m), some (.int lot), some (.int n)] →
        tIf (tTest (tOp rEq (tCall spBit [] E0 (tCons (tVar 0) (tCons (tC (.int 2)) tNil))) (tC (.int 0)))) (tVar 3) (tOp (rI0 fun i j => V.int (i - j)) (tC (.int 0)) (tVar 3)) σ H1 Q := by
      rintro σ H1 n lot n0 n1 hc1 b1 rfl
      rw [t31] at n1
      refine ⟨_, rfl, c, 2, rfl, hc1, by decide, sm (by decide) (by decide), fun r H2 _ _ hc2 b2 => ⟨rfl, _, rfl, ?_⟩⟩
      rw [dec_int]
      refine ite2 (fun _ => ⟨_, rfl, q n H2 (by omega) ?_ hc2 (b1.trans b2)⟩) (fun _ => ⟨_, rfl, _, _, rfl, rfl, q (0 - n) H2 (by omega) ?_ hc2 (b1.trans b2)⟩)
      · generalize (10 ^ 31 : Nat) = M at n1 ⊢
        omega
      · generalize (10 ^ 31 : Nat) = M at n1 ⊢
        omega
    refine ⟨_, rfl, c, 8, rfl, hc, by decide, sm (by decide) (by decide), fun lot H1 l0 l8 hc1 b1 => ?_⟩
    refine ⟨_, rfl, _, _, rfl, rfl, _, rfl, ?_⟩
    refine ite2 (fun _ => ?_) (fun _ => ?_)
    · refine ⟨_, rfl, _, rfl, c, m, rfl, hc1, m0, sm m0 m1, fun r H2 r0 rm hc2 b2 => ⟨_, _, rfl, rfl, ?_⟩⟩
      exact last _ H2 (1 + r) lot (by omega) (Int.le_trans (show 1 + r ≤ 1 + 10 ^ 30 from Int.add_le_add_left (Int.le_trans (show r ≤ 100 by omega) (by decide +kernel)) 1) ten30) hc2 (b1.trans b2) rfl
    · refine ⟨_, rfl, _, _, rfl, rfl, ⟨by decide, by decide, by decide⟩, c, _, rfl, hc1, (show (0 : Int) < 10 ^ 30 by decide +kernel), sm30, fun r H2 r0 rm hc2 b2 => ⟨_, _, rfl, rfl, ?_⟩⟩
      have rm' : r < 10 ^ 30 := rm
      exact last _ H2 (1 + r) lot (by omega) (Int.le_trans (Int.add_le_add_left (Int.le_of_lt rm') 1) ten30) hc2 (b1.trans b2) rfl
end
end K4

set_option Elab.async false
set_option linter.all false
set_option maxRecDepth 100000
set_option maxHeartbeats 3200000
namespace K4
open PySem L2 Tx Tg Tm
theorem not_cup {H : Hp} {c a : Addr} {o : HO} (h : Cup H c) (e : H a = some o) (n : ∀ xs, o ≠ .lst xs) : a ≠ c := by
  rintro rfl
  obtain ⟨x, y, z, e2⟩ := h
  rw [e] at e2
  exact n _ (Option.some.inj e2)
theorem TupRow.but {K : PySem.W.Frag} {H H' : Hp} {c a : Addr} {l : Row} (hc : Cup H c) (b : But c H H') (h : TupRow K H a l) : TupRow K H' a l := by
  obtain ⟨ys, ha, hp⟩ := h
  refine ⟨ys, ?_, hp.mono fun y p ⟨t, e1, e2⟩ => ⟨t, e1, b _ _ (not_cup hc e2 fun xs z => by cases z) e2⟩⟩
  rcases ha with h | h
  · rcases h with h | ⟨o, h⟩
    · exact .inl (.inl (b _ _ (not_cup hc h fun xs z => by cases z) h))
    · exact .inl (.inr ⟨o, b _ _ (not_cup hc h fun xs z => by cases z) h⟩)
  · exact .inr h
theorem put_red {l : Row} {p : Str × Int} (h : Wm.Red l.reverse) : Wm.Red (putL l p).reverse := by
  unfold putL
  rw [List.reverse_reverse]
  exact Wm.red_push h
theorem put_len (l : Row) (p : Str × Int) : (putL l p).length ≤ l.length + 1 := by
  unfold putL
  rw [List.length_reverse]
  have := push_len p l.reverse
  rw [List.length_reverse] at this
  exact this
theorem put_ru {sg : Str} {B C : Nat} {l : Row} {c : Nat} {n : Int} (h : Ru sg B l) (hc : c ∈ cds sg) (hn : n.natAbs ≤ C) : Ru sg (B + C) (putL l (one c, n)) := (h.rev.push hc hn).rev
abbrev nRow : List Str := ["_law_cup_here", "_law_signs_here", "_law_much", "_law_most", "_law_row_here", "_law_turn"]
section
variable {P : Program} {w : World} {K : PySem.W.Frag} {mg : Str → Option Value} {base : Heap}
def spDraw (K : PySem.W.Frag) : Sp := fun vs H Q _ => ∃ (c : Addr) (sg : Str) (m : Nat) (e : Int), vs = [.ref c, .str sg, .int m, .int e] ∧ Cup H c ∧ Signs sg ∧ m ≤ 10 ∧ 0 < e ∧ e ≤ 100 ∧
  ∀ p H' l, Cup H' c → But c H H' → TupRow K H' p l → Wm.Red l.reverse → Ru sg (m * 10 ^ 31) l → l.length ≤ m → Q (.ref p) H'
theorem scRow : FnScope nRow ["_law_cup_here", "_law_signs_here", "_law_much", "_law_most"] (defScope sRow) := ⟨rfl, rfl, rfl, by decide +kernel, rfl, by decide +kernel, by decide +kernel⟩
theorem ok_row {f fB fP fW fU : Addr} {fd fdB fdP fdW fdU : FuncData} (F : Fun K "_law_row" "_law_row" sRow f fd) (T : Txt K mg) (DB : Df K mg "_law_bit" sBit ["_law_cup_here", "_law_much"] fB fdB) (DP : Df K mg "_law_pick" sPick ["_law_cup_here", "_law_items"] fP fdP)
    (DW : Df K mg "_law_power" sPower ["_law_cup_here", "_law_most"] fW fdW) (DU : Df K mg "_law_put_row" sPut ["_law_row_here", "_law_sign", "_law_much"] fU fdU) : FnOk P w K mg base CX0 3 f fd ["_law_cup_here", "_law_signs_here", "_law_much", "_law_most"] (spDraw K) := by
  have GB := ok_bit (P := P) (w := w) (base := base) DB.F T
  have GP := ok_pick (P := P) (w := w) (base := base) DP.F T DB
  have GW := ok_power (P := P) (w := w) (base := base) DW.F T DB
  have GU := ok_put (P := P) (w := w) (base := base) DU.F T
  refine F.ok scRow (fun vs H Q E h => ?_) (fun cdv A outer s H vs Q E hr h => ?_)
  · obtain ⟨c, sg, m, e, rfl, _⟩ := h
    rfl
  · obtain ⟨c, sg, m, e, rfl, hc, hsg, hm, e0, e1, q⟩ := h
    have r1 : Room 1 _ := hr.mono (by decide)
    refine ⟨_, pss_cons (ps_set (i := 4) scRow.nd rfl (Or.inl rfl) (pe_tup pa_nil))
      (pss_cons (ps_for PassesOwn.never rfl (pi_range1 rfl T.range (pa_cons (pe_call GB r1 (by rfl) DB.m DB.F.kp DB.b .nil pass0 (pa_cons (pv 0) (pa_cons (pe_op op_add (pv 2) pe_int) pa_nil))) pa_nil)) (pg_name (i := 5) scRow.nd rfl (Or.inl rfl))
        (pss_one (ps_set (i := 4) scRow.nd rfl (Or.inl rfl) (pe_call GU r1 (by rfl) DU.m DU.F.kp DU.b .nil pass0 (pa_cons (pv 4) (pa_cons (pe_call GP hr (by rfl) DP.m DP.F.kp DP.b .nil pass0 (pa_cons (pv 0) (pa_cons (pv 1) pa_nil)))
          (pa_cons (pe_call GW hr (by rfl) DW.m DW.F.kp DW.b .nil pass0 (pa_cons (pv 0) (pa_cons (pv 3) pa_nil))) pa_nil)))))))
      (pss_one (ps_ret (pv 4)))), ?_⟩
    refine ⟨by decide, fun pe npe => ?_⟩
    have s0 := same_upd (o := .tup []) npe
    have he : TupRow K (upd H pe (.tup [])) pe [] := .new upd_same .nil
    have hc0 := hc.same s0
    have b0 := But.of (c := c) s0
    generalize upd H pe (.tup []) = H0 at he hc0 b0 ⊢
    refine ⟨_, rfl, _, rfl, _, _, rfl, rfl, c, (m : Int) + 1, rfl, hc0, by omega, sm (by omega) (by omega), fun r H1 r0 rm hc1 b1 => ?_⟩
    obtain ⟨k, rfl⟩ := Int.eq_ofNat_of_zero_le r0
    refine ⟨_, rfl, by omega, by omega, for_range (n := k) (fun i σ H2 => ∃ (p : Addr) (l : Row) (t5 : Option V), σ = [some (.ref c), some (.str sg), some (.int m), some (.int e), some (.ref p), t5] ∧ Cup H2 c ∧ But c H H2 ∧ TupRow K H2 p l ∧ Wm.Red l.reverse ∧ Ru sg (i * 10 ^ 31) l ∧ l.length ≤ i)
      ⟨pe, [], none, rfl, hc1, b0.trans b1, he.but hc0 b1, trivial, (fun p hp => by cases hp), Nat.le_refl 0⟩ ?_ ?_⟩
    · rintro i σ H2 hi ⟨p, l, t5, rfl, hc2, b2, hp, hred, hru, hll⟩
      have sl := signs_len hsg
      refine ⟨_, rfl, _, rfl, _, rfl, c, hc2, .inr ⟨sg, rfl, sl.1, sl.2, fun d H3 hd hc3 b3 => ?_⟩⟩
      refine ⟨_, rfl, _, rfl, c, e, rfl, hc3, e0, e1, fun n H4 n0 nb hc4 b4 => ?_⟩
      have hp4 := (hp.but hc2 b3).but hc3 b4
      refine ⟨p, l, one d, n, rfl, hp4, by omega, hru.pl (signs_plain hsg), fun p5 H5 s5 h5 => ?_⟩
      refine ⟨p5, _, _, rfl, hc4.same s5, ((b2.trans b3).trans b4).trans (But.of s5), h5, put_red hred, ?_, ?_⟩
      · have := put_ru hru hd nb
        rw [Nat.add_mul, Nat.one_mul]
        exact this
      · have := put_len l (one d, n)
        omega
    · rintro σ H2 ⟨p, l, t5, rfl, hc2, b2, hp, hred, hru, hll⟩
      refine ⟨_, rfl, q p H2 l hc2 b2 hp hred (fun u hu => ⟨(hru u hu).1, Nat.le_trans (hru u hu).2 (Nat.mul_le_mul_right _ (by omega))⟩) (by omega)⟩
end
end K4

set_option Elab.async false
set_option linter.all false
set_option maxRecDepth 100000
set_option maxHeartbeats 3200000
namespace K4
open PySem L2 Tx Tg Tm
theorem k_tuple_tuple : kitB "tuple" "tuple" = some true := by decide +kernel
theorem isInt_of {n : Int} {B : Nat} (h : n.natAbs ≤ B) (hB : B < 10 ^ 200) : isInt (.int n) = true := by
  show decide (n.natAbs < 10 ^ 200) = true
  exact decide_eq_true (Nat.lt_of_le_of_lt h hB)
section
variable {P : Program} {w : World} {K : PySem.W.Frag} {mg : Str → Option Value} {base : Heap}
def spIsRun : Sp := fun vs H Q _ => ∃ (sg : Str) (t : Addr) (c : Nat) (n : Int), vs = [.str sg, .ref t] ∧ H t = some (.tup [.str (one c), .int n]) ∧ c ∈ cds sg ∧ isInt (.int n) = true ∧ Q (.bl true) H
theorem scIsRun : FnScope ["letters", "value", "letter", "exponent"] ["letters", "value"] (defScope sIsRun) := ⟨rfl, rfl, rfl, by decide +kernel, rfl, by decide +kernel, by decide +kernel⟩
theorem ok_isrun {f fI : Addr} {fd fdI : FuncData} (F : Fun K "is_run" "is_run" sIsRun f fd) (T : Txt K mg) (DI : Df K mg "is_integer" sInt ["value"] fI fdI) : FnOk P w K mg base CX0 2 f fd ["letters", "value"] spIsRun := by
  have G := ok_int (P := P) (w := w) (base := base) DI.F T
  refine F.ok scIsRun (fun vs H Q E h => ?_) (fun cdv A outer s H vs Q E hr h => ?_)
  · obtain ⟨sg, t, c, n, rfl, _⟩ := h
    rfl
  · obtain ⟨sg, t, c, n, rfl, et, hc, hn, q⟩ := h
    refine ⟨_, pss_cons (ps_if (PW.pt (pw_or (pt_not (pt_val (pe_callB call_isi (by rfl) T.isi (by decide +kernel) (pa_cons (pv 1) (pa_cons (pe_bltn (v := .ty "tuple") (by rfl) T.tuple (by decide +kernel) rfl) pa_nil)))))
        (pw_or1 (pt_cmpR op_ne (pe_callB call_len_seq (by rfl) T.len PySem.boot_len (pa_cons (pv 1) pa_nil)) pe_int (nomark _))))) (pss_one (ps_ret pe_bl)) pss_nil)
      (pss_cons (ps_asg (pv 1) (pg_tup rfl (pgs_cons (pg_name (i := 2) scIsRun.nd rfl (Or.inl rfl)) (pgs_cons (pg_name (i := 3) scIsRun.nd rfl (Or.inl rfl)) pgs_nil))))
      (pss_one (ps_ret (pe_and (pe_callB call_isi (by rfl) T.isi (by decide +kernel) (pa_cons (pv 2) (pa_cons (pe_bltn (v := .ty "str") (by rfl) T.str (by decide +kernel) rfl) pa_nil)))
        (pe_and (pe_cmpR op_eq (pe_callB call_len_str (by rfl) T.len PySem.boot_len (pa_cons (pv 2) pa_nil)) pe_int (nomark _))
        (pe_and (pe_cmpR op_in_sign (pv 2) (pv 0) (by rfl)) (pe_one (pe_call G hr (by rfl) DI.m DI.F.kp DI.b .nil pass0 (pa_cons (pv 3) pa_nil))))))))), ?_⟩
    refine ⟨_, rfl, _, _, _, _, _, rfl, .ty "tuple", TyX.base (.tup et), kit_ty k_tuple_tuple, true, rfl, _, rfl, ?_⟩
    refine ⟨t, _, rfl, .inr (SqT.of et), rfl, _, rfl, ?_⟩
    refine ⟨_, rfl, t, _, rfl, SqT.of et, rfl, _, _, rfl, _, _, rfl, rfl, ?_⟩
    refine ⟨_, rfl, _, _, _, _, _, rfl, .ty "str", TyX.base (.str (one c)), kit_ty k_str_str, true, rfl, iteT ?_⟩
    refine ⟨_, rfl, one c, rfl, (show 1 ≤ sizeLine by decide), rfl, _, rfl, iteT ?_⟩
    refine ⟨_, rfl, _, rfl, c, sg, rfl, rfl, _, rfl, ?_⟩
    rw [decide_eq_true hc]
    refine iteT ⟨_, rfl, .int n, .int n, rfl, .int n, ?_⟩
    rw [hn]
    exact q
def spIsRow (K : PySem.W.Frag) : Sp := fun vs H Q _ => ∃ (sg : Str) (a : Addr) (l : Row) (B : Nat), vs = [.str sg, .ref a] ∧ TupRow K H a l ∧ Ru sg B l ∧ B < 10 ^ 200 ∧ l.length ≤ 100000 ∧ ∀ H', Same H H' → Q (.bl true) H'
theorem scIsRow : FnScope ["letters", "value", "pair"] ["letters", "value"] (defScope sIsRow) := ⟨rfl, rfl, rfl, by decide +kernel, rfl, by decide +kernel, by decide +kernel⟩
theorem ok_isrow {f fR fI : Addr} {fd fdR fdI : FuncData} (F : Fun K "is_row_of_runs" "is_row_of_runs" sIsRow f fd) (T : Txt K mg) (DI : Df K mg "is_integer" sInt ["value"] fI fdI) (DR : Df K mg "is_run" sIsRun ["letters", "value"] fR fdR) :
    FnOk P w K mg base CX0 3 f fd ["letters", "value"] (spIsRow K) := by
  have G := ok_isrun (P := P) (w := w) (base := base) DR.F T DI
  refine F.ok scIsRow (fun vs H Q E h => ?_) (fun cdv A outer s H vs Q E hr h => ?_)
  · obtain ⟨sg, a, l, B, rfl, _⟩ := h
    rfl
  · obtain ⟨sg, a, l, B, rfl, ⟨ys, ha, hp⟩, hru, hB, hl, q⟩ := h
    refine ⟨_, pss_one (ps_ret (pe_and (pe_callB call_isi (by rfl) T.isi (by decide +kernel) (pa_cons (pv 1) (pa_cons (pe_bltn (v := .ty "tuple") (by rfl) T.tuple (by decide +kernel) rfl) pa_nil)))
      (pe_one (pe_callB (cr_all rfl) (by rfl) T.all (by decide +kernel) (pa_cons (pe_lc (own := [("pair", 2)]) (g := gName 2) (tt := tYes) rfl scIsRow.nd (pi_tup (pv 1))
        (blkOk_by (own := [("pair", 2)]) (N := ["letters", "value", "pair"]) (sc := defScope sIsRow) (by decide +kernel)) (fun _ _ _ _ _ => pg_name (i := 2) scIsRow.nd rfl (Or.inl rfl)) (fun _ _ _ _ _ => pts_nil)
        (fun _ _ _ _ _ => pe_call G hr (by rfl) DR.m DR.F.kp DR.b .nil pass0 (pa_cons (pv 0) (pa_cons (pv 2) pa_nil)))) pa_nil))))), ?_⟩
    have ty : TyX K H (.ref a) (.type "tuple") := by
      rcases ha with h | ⟨o, its, n, hk, hc, _⟩
      · rcases h with h | ⟨o, h⟩
        · exact .base (.tup h)
        · exact .fTuple h
      · exact .kTuple hk hc
    refine ⟨_, rfl, _, _, _, _, _, rfl, .ty "tuple", ty, kit_ty k_tuple_tuple, true, rfl, iteT ?_⟩
    refine ⟨_, rfl, a, rfl, ⟨_, ha⟩, fun D hD => ?_⟩
    have hlen : ys.length = l.length := hp.length
    refine lc_tup (xs := ys) (fun i H1 => Same H H1 ∧ H1 D = some (.lst ((List.replicate i true).map V.bl))) ⟨same_upd hD, upd_same⟩ (fun i H1 _ z => K4.SqT.of_row z.1 ha) ?_ ?_
    · rintro i x H1 hx ⟨s1, e1⟩
      have hi := (List.getElem?_eq_some_iff.mp hx).1
      have hi' : i < l.length := by omega
      obtain ⟨t, rfl, et⟩ : PairAt H x l[i] := hp.zip (x, l[i]) (List.mem_of_getElem? (i := i) (by rw [List.getElem?_zip_eq_some]; exact ⟨hx, List.getElem?_eq_getElem hi'⟩))
      obtain ⟨⟨c, hc, ec⟩, hb⟩ := hru l[i] (List.getElem_mem hi')
      rw [ec] at et
      refine ⟨rfl, iteT (B := Same H H1 ∧ H1 D = some (.lst ((List.replicate (i + 1) true).map V.bl))) ?_⟩
      refine ⟨_, rfl, _, rfl, sg, t, c, _, rfl, s1 _ _ et, hc, isInt_of hb hB, _, e1, ?_, same_put s1 hD, ?_⟩
      · rw [List.length_map, List.length_replicate]
        exact Nat.lt_of_lt_of_le (show i < 100000 by omega) (by decide)
      · rw [upd_same, List.replicate_succ', List.map_append]
        rfl
    · rintro H1 ⟨s1, e1⟩
      have hall : (List.replicate ys.length true).all id = true := List.all_eq_true.mpr fun b hb => by rw [(List.mem_replicate.mp hb).2]; rfl
      refine ⟨D, _, rfl, SqL.of e1, ?_⟩
      rw [hall]
      exact q _ s1
end
end K4

set_option Elab.async false
set_option linter.all false
set_option maxRecDepth 100000
set_option maxHeartbeats 3200000
namespace K4
open PySem L2 Tx Tg Tm
def clsBody (s : Stmt) : List Stmt := match s with
  | .ClassDef (body := b) .. => b
  | _ => []
abbrev sMadeInit : Stmt := (clsBody (top 24)).getD 0 (.Pass ⟨0, 0, 0, 0⟩)
abbrev wdef (i : Nat) : Stmt := (clsBody (top 37)).getD i (.Pass ⟨0, 0, 0, 0⟩)
abbrev sWordInit : Stmt := wdef 0
/-- what is asked of the two classes -/
structure WF (K : PySem.W.Frag) (mg : Str → Option Value) (CM CW : Addr) : Prop where
  gM : mg "Made" = some (.ref CM)
  gW : mg "Word" = some (.ref CW)
  clM : Cls K CM
  nC : NoAttr K CM "content"
  clW : Cls K CW
  nL : NoAttr K CW "_letters"
  nR : NoAttr K CW "_runs"
  iMM : PySem.W.kitOne K (.ref CM) (.ref CM) = some true
  iTM : PySem.W.kitOne K (.type "tuple") (.ref CM) = some false
  tyM : ∀ (H : Hp) (a dx : Addr) (fs : List (Str × V)), H a = some (.ins CM dx fs) → TyX K H (.ref a) (.ref CM)
  tyW : ∀ (H : Hp) (a dx : Addr) (fs : List (Str × V)), H a = some (.ins CW dx fs) → TyX K H (.ref a) (.ref CW)
  iWW : PySem.W.kitOne K (.ref CW) (.ref CW) = some true
section
variable {P : Program} {w : World} {K : PySem.W.Frag} {mg : Str → Option Value} {base : Heap}
def spMadeInit (CM : Addr) : Sp := fun vs H Q _ => ∃ (x dx : Addr) (v : V), vs = [.ref x, v] ∧ H x = some (.ins CM dx []) ∧ Q .non (upd H x (.ins CM dx [("content", v)]))
theorem scMadeInit : FnScope ["self", "content"] ["self", "content"] (defScope sMadeInit) := ⟨rfl, rfl, rfl, by decide +kernel, rfl, by decide +kernel, by decide +kernel⟩
theorem ok_madeinit {CM CW f : Addr} {fd : FuncData} (F : Fun K "__init__" "Made.__init__" sMadeInit f fd) (W : WF K mg CM CW) : FnOk P w K mg base CX0 1 f fd ["self", "content"] (spMadeInit CM) := by
  refine F.ok scMadeInit (fun vs H Q E h => ?_) (fun cdv A outer s H vs Q E hr h => ?_)
  · obtain ⟨x, dx, v, rfl, _⟩ := h
    rfl
  · obtain ⟨x, dx, v, rfl, hx, q⟩ := h
    refine ⟨_, pss_one (ps_fld (pv 0) (pv 1) rfl), ?_⟩
    exact ⟨_, rfl, _, rfl, x, CM, dx, [], rfl, hx, W.clM, W.nC, by decide, q⟩
end
end K4

set_option Elab.async false
set_option linter.all false
set_option maxRecDepth 100000
set_option maxHeartbeats 3200000
namespace K4
open PySem L2 Tx Tg Tm
theorem signs_letters {sg : Str} (h : Signs sg) : letters (.str sg) = true := by
  have go : ∀ z : Str, (decide (z.length ≤ 3) && only z alpha && decide (z ≠ Str.empty)) = true → (cds z).Pairwise (· < ·) → letters (.str z) = true := fun z h1 h2 => by
    show (decide (z.length ≤ 3) && only z alpha && decide (z ≠ Str.empty) && rise z) = true
    rw [h1, Bool.true_and]
    exact decide_eq_true (up_eq h2 (ups_up _) fun c => (ups_mem _ c).symm)
  rcases h with rfl | rfl | rfl | rfl <;> exact go _ (by decide +kernel) (by decide +kernel)
theorem signs_fine {sg : Str} (h : Signs sg) : Fine sg := by
  rcases h with rfl | rfl | rfl | rfl <;> exact ⟨by decide +kernel, by decide +kernel, by decide +kernel⟩
/-- rows stay where only an instance is written -/
theorem TupRow.ins {K : PySem.W.Frag} {H H' : Hp} {c a : Addr} {l : Row} {C dx : Addr} {fs : List (Str × V)} (hc : H c = some (.ins C dx fs)) (b : But c H H') (h : TupRow K H a l) : TupRow K H' a l := by
  have nc : ∀ {q : Addr} {o : HO}, H q = some o → (∀ D y gs, o ≠ .ins D y gs) → q ≠ c := fun e n z => by
    rw [z, hc] at e
    exact n _ _ _ (Option.some.inj e).symm
  obtain ⟨ys, ha, hp⟩ := h
  refine ⟨ys, ?_, hp.mono fun y p ⟨t, e1, e2⟩ => ⟨t, e1, b _ _ (nc e2 fun _ _ _ z => by cases z) e2⟩⟩
  rcases ha with h | h
  · rcases h with h | ⟨o, h⟩
    · exact .inl (.inl (b _ _ (nc h fun _ _ _ z => by cases z) h))
    · exact .inl (.inr ⟨o, b _ _ (nc h fun _ _ _ z => by cases z) h⟩)
  · exact .inr h
section
variable {P : Program} {w : World} {K : PySem.W.Frag} {mg : Str → Option Value} {base : Heap}
def spPassL : Sp := fun vs H Q _ => ∃ (sg : Str), vs = [.str sg] ∧ Signs sg ∧ ∀ H', Same H H' → Q .non H'
theorem scCheck : FnScope ["value"] ["value"] (defScope sCheck) := ⟨rfl, rfl, rfl, by decide +kernel, rfl, by decide +kernel, by decide +kernel⟩
theorem ok_passL {f fH fL : Addr} {fd fdH fdL : FuncData} (F : Fun K "check_letters" "check_letters" sCheck f fd) (T : Txt K mg) (DH : Df K mg "has_only" sHas ["value", "signs", "most"] fH fdH)
    (DL : Df K mg "is_letters" sLetters ["value"] fL fdL) : FnOk P w K mg base CX0 3 f fd ["value"] spPassL := by
  have G := ok_letters (P := P) (w := w) (base := base) DL.F T DH
  refine F.ok scCheck (fun vs H Q E h => ?_) (fun cdv A outer s H vs Q E hr h => ?_)
  · obtain ⟨v, rfl, _⟩ := h
    rfl
  · obtain ⟨sg, rfl, hs, q⟩ := h
    refine ⟨_, pss_one (ps_if (pt_not (pt_val (pe_call G hr (by rfl) DL.m DL.F.kp DL.b .nil pass0 (pa_cons (pv 0) pa_nil)))) (pss_one ps_never) pss_nil), ?_⟩
    refine ⟨_, rfl, .str sg, .str sg, rfl, .str sg, signs_fine hs, fun H' s1 => ⟨_, rfl, ?_⟩⟩
    rw [signs_letters hs]
    exact iteF (q _ s1)
/-- what a word is made of: a row of runs that is judged, or one that is handed over -/
def Src (K : PySem.W.Frag) (CM : Addr) (H : Hp) (sg : Str) (a : Addr) (l : Row) : Prop :=
  (∃ b dm, H a = some (.ins CM dm [("content", .ref b)]) ∧ TupRow K H b l) ∨ (TupRow K H a l ∧ ∃ B, Ru sg B l ∧ B < 10 ^ 200)
theorem wi_tail {CM CW : Addr} {D : Ends} {H H2 : Hp} {x dx p : Addr} {v2 : Option V} {sg : Str} {r : Row} (W : WF K mg CM CW) (s2 : Same H H2) (hx : H x = some (.ins CW dx [])) (hr : TupRow K H2 p r) (hl : r.length ≤ 200)
    (q : ∀ H', But x H H' → H' x = some (.ins CW dx [("_letters", .str sg), ("_runs", .ref p)]) → TupRow K H' p r → D.nx [some (.ref x), some (.str sg), v2, some (.ref p)] H') :
    tSeq (tDrop (tCall spMost [] E0 (tCons (tCB (fun xs H Q => ∃ p ys, xs = [V.ref p] ∧ (SqL K H p ys ∨ SqT K H p ys) ∧ Q (V.int (ys.length : Nat)) H) (tCons (tVar 3) tNil)) (tCons (tC (V.int 200)) tNil))))
      (tSeq (sFld K (tVar 0) (tVar 1) "_letters") (sFld K (tVar 0) (tVar 3) "_runs")) D [some (.ref x), some (.str sg), v2, some (.ref p)] H2 := by
  obtain ⟨ys, hy, hp⟩ := id hr
  have hx2 := s2 _ _ hx
  refine ⟨_, rfl, p, ys, rfl, .inr hy, _, _, rfl, by rw [hp.length]; omega, ?_⟩
  refine ⟨_, rfl, _, rfl, x, CW, dx, [], rfl, hx2, W.clW, W.nL, by decide, ?_⟩
  refine ⟨_, rfl, _, rfl, x, CW, dx, _, rfl, upd_same, W.clW, W.nR, by show 1 < 1000; decide, ?_⟩
  refine q _ (fun b o n e => ?_) upd_same (hr.ins hx2 fun b o n e => ?_)
  · rw [upd_ne n, upd_ne n]
    exact s2 _ _ e
  · rw [upd_ne n, upd_ne n]
    exact e
def spWordInit (K : PySem.W.Frag) (CM CW : Addr) : Sp := fun vs H Q _ => ∃ (x dx : Addr) (sg : Str) (a : Addr) (l : Row), vs = [.ref x, .str sg, .ref a] ∧ H x = some (.ins CW dx []) ∧ Signs sg ∧ Src K CM H sg a l ∧ l.length ≤ 100000 ∧ (rowOf l).length ≤ 200 ∧
  ∀ H' p, But x H H' → H' x = some (.ins CW dx [("_letters", .str sg), ("_runs", .ref p)]) → TupRow K H' p (rowOf l) → Q .non H'
abbrev nWI : List Str := ["self", "letters", "runs", "left"]
theorem scWordInit : FnScope nWI ["self", "letters", "runs"] (defScope sWordInit) := ⟨rfl, rfl, rfl, by decide +kernel, rfl, by decide +kernel, by decide +kernel⟩
theorem ok_wordinit {CM CW f fH fL fC fI fR fRR fJ fM : Addr} {fd fdH fdL fdC fdI fdR fdRR fdJ fdM : FuncData} (F : Fun K "__init__" "Word.__init__" sWordInit f fd) (T : Txt K mg) (W : WF K mg CM CW) (DH : Df K mg "has_only" sHas ["value", "signs", "most"] fH fdH)
    (DL : Df K mg "is_letters" sLetters ["value"] fL fdL) (DC : Df K mg "check_letters" sCheck ["value"] fC fdC) (DI : Df K mg "is_integer" sInt ["value"] fI fdI) (DR : Df K mg "is_run" sIsRun ["letters", "value"] fR fdR) (DRR : Df K mg "is_row_of_runs" sIsRow ["letters", "value"] fRR fdRR)
    (DJ : Df K mg "joined_runs" sJoin ["pairs"] fJ fdJ) (DM : Df K mg "check_most" sMost ["many", "limit"] fM fdM) : FnOk P w K mg base CX0 4 f fd ["self", "letters", "runs"] (spWordInit K CM CW) := by
  have GC := ok_passL (P := P) (w := w) (base := base) DC.F T DH DL
  have GR := ok_isrow (P := P) (w := w) (base := base) DRR.F T DI DR
  have GJ := ok_join' (P := P) (w := w) (base := base) DJ.F T
  have GM := ok_most (P := P) (w := w) (base := base) DM.F T
  refine F.ok scWordInit (fun vs H Q E h => ?_) (fun cdv A outer s H vs Q E hr h => ?_)
  · obtain ⟨x, dx, sg, a, l, rfl, _⟩ := h
    rfl
  · obtain ⟨x, dx, sg, a, l, rfl, hx, hsg, hsrc, hl, hrl, q⟩ := h
    have r1 : Room 1 _ := hr.mono (by decide)
    obtain ⟨t4, g4⟩ := T.mRuns
    refine ⟨_, pss_cons (ps_expr (pe_call GC hr (by rfl) DC.m DC.F.kp DC.b .nil pass0 (pa_cons (pv 1) pa_nil)))
      (pss_cons (ps_if (pt_val (pe_callB call_isi (by rfl) T.isi (by decide +kernel) (pa_cons (pv 2) (pa_cons (pe_glob (v := .ref CM) (by rfl) W.gM rfl) pa_nil))))
          (pss_one (ps_set (i := 3) scWordInit.nd rfl (Or.inl rfl) (pe_call GJ r1 (by rfl) DJ.m DJ.F.kp DJ.b .nil pass0 (pa_cons (pe_fld (pv 2) rfl) pa_nil))))
          (pss_one (ps_if (pt_val (pe_call GR hr (by rfl) DRR.m DRR.F.kp DRR.b .nil pass0 (pa_cons (pv 1) (pa_cons (pv 2) pa_nil))))
            (pss_one (ps_set (i := 3) scWordInit.nd rfl (Or.inl rfl) (pe_call GJ r1 (by rfl) DJ.m DJ.F.kp DJ.b .nil pass0 (pa_cons (pv 2) pa_nil)))) (pss_one ps_never))))
      (pss_cons (ps_expr (pe_call GM r1 (by rfl) DM.m DM.F.kp DM.b .nil pass0 (pa_cons (pe_callB call_len_seq (by rfl) T.len PySem.boot_len (pa_cons (pv 3) pa_nil)) (pa_cons (pe_glob (v := .int 200) (by rfl) g4 ⟨_, rfl⟩) pa_nil))))
      (pss_cons (ps_fld (pv 0) (pv 1) rfl)
      (pss_one (ps_fld (pv 0) (pv 3) rfl))))), ?_⟩
    refine ⟨_, rfl, sg, rfl, hsg, fun H1 s1 => ?_⟩
    rcases hsrc with ⟨b, dm, ha, hb⟩ | ⟨hrow, B, hru, hB⟩
    · refine ⟨_, rfl, _, _, _, _, _, rfl, .own CM, W.tyM _ _ _ _ (s1 _ _ ha), W.iMM, true, rfl, iteT ?_⟩
      refine ⟨_, rfl, a, CM, dm, _, _, rfl, s1 _ _ ha, W.clM, W.nC, rfl, ?_⟩
      refine ⟨b, l, rfl, hb.same s1, by omega, fun p H2 s2 h2 => ?_⟩
      exact wi_tail W (s1.trans s2) hx h2 hrl fun H' b1 b2 b3 => q H' p b1 b2 b3
    · have ty : TyX K H1 (.ref a) (.type "tuple") := by
        obtain ⟨ys, hy, _⟩ := hrow.same s1
        rcases hy with h | ⟨o, its, n, hk, hc, _⟩
        · rcases h with h | ⟨o, h⟩
          · exact .base (.tup h)
          · exact .fTuple h
        · exact .kTuple hk hc
      refine ⟨_, rfl, _, _, _, _, _, rfl, .own CM, ty, W.iTM, false, rfl, iteF ?_⟩
      refine ⟨_, rfl, _, rfl, sg, a, l, B, rfl, hrow.same s1, hru, hB, hl, fun H2 s2 => ⟨_, rfl, iteT ?_⟩⟩
      refine ⟨_, rfl, a, l, rfl, hrow.same (s1.trans s2), by omega, fun p H3 s3 h3 => ?_⟩
      exact wi_tail W ((s1.trans s2).trans s3) hx h3 hrl fun H' b1 b2 b3 => q H' p b1 b2 b3
end
end K4

set_option Elab.async false
set_option linter.all false
set_option maxRecDepth 100000
set_option maxHeartbeats 3200000
namespace K4
open PySem L2 Tx Tg Tm
abbrev sMul : Stmt := wdef 10
abbrev sInv : Stmt := wdef 11
def WordAt (K : PySem.W.Frag) (CW : Addr) (H : Hp) (a : Addr) (sg : Str) (l : Row) : Prop := ∃ dx p, H a = some (.ins CW dx [("_letters", .str sg), ("_runs", .ref p)]) ∧ TupRow K H p l
theorem WordAt.same {K : PySem.W.Frag} {CW : Addr} {H H' : Hp} {a : Addr} {sg : Str} {l : Row} (s : Same H H') (h : WordAt K CW H a sg l) : WordAt K CW H' a sg l := by
  obtain ⟨dx, p, e, r⟩ := h
  exact ⟨dx, p, s _ _ e, r.same s⟩
/-- the classes' makers -/
structure Makes4 (P : Program) (w : World) (K : PySem.W.Frag) (mg : Str → Option Value) (base : Heap) (CM CW fMI fWI : Addr) (dMI dWI : FuncData) : Prop where
  W : WF K mg CM CW
  mM : Mk K CM fMI
  mW : Mk K CW fWI
  gMI : FnOk P w K mg base CX0 1 fMI dMI ["self", "content"] (spMadeInit CM)
  gWI : FnOk P w K mg base CX0 4 fWI dWI ["self", "letters", "runs"] (spWordInit K CM CW)
  bMI : Binds K dMI ["self", "content"] []
  bWI : Binds K dWI ["self", "letters", "runs"] []
/-- Word(letters, Made(row)): the two objects new -/
theorem made_word {P : Program} {w : World} {K : PySem.W.Frag} {mg : Str → Option Value} {base : Heap} {CM CW fMI fWI : Addr} {dMI dWI : FuncData} (G : Makes4 P w K mg base CM CW fMI fWI dMI dWI) {H : Hp} {sg : Str} {b : Addr} {l : Row} {Q : VK} {E : XK} (hsg : Signs sg) (hb : TupRow K H b l) (hl : l.length ≤ 100000)
    (hrl : (rowOf l).length ≤ 200) (q : ∀ x H', Same H H' → WordAt K CW H' x sg (rowOf l) → Q (.ref x) H') :
    ∀ m dm, H m = none → H dm = none → dm ≠ m → spMadeInit CM (.ref m :: ([V.ref b] ++ [])) (upd (upd H dm (.own m)) m (.ins CM dm [])) (fun v H2 => v = .non ∧ ∀ x dx, H2 x = none → H2 dx = none → dx ≠ x →
      spWordInit K CM CW (.ref x :: ([V.str sg, V.ref m] ++ [])) (upd (upd H2 dx (.own x)) x (.ins CW dx [])) (fun v H3 => v = .non ∧ Q (.ref x) H3) E) E := by
  intro m dm nm ndm nmm
  refine ⟨m, dm, .ref b, rfl, upd_same, rfl, fun x dx nx ndx nxx => ?_⟩
  have s1 : Same H (upd H dm (.own m)) := same_upd ndm
  have n1 : (upd H dm (.own m)) m = none := by rw [upd_ne nmm.symm]; exact nm
  have s2 : Same (upd H dm (.own m)) (upd (upd (upd H dm (.own m)) m (.ins CM dm [])) m (.ins CM dm [("content", .ref b)])) := same_put (same_upd n1) n1
  have em : (upd (upd (upd H dm (.own m)) m (.ins CM dm [])) m (.ins CM dm [("content", .ref b)])) m = some (.ins CM dm [("content", .ref b)]) := upd_same
  generalize upd (upd (upd H dm (.own m)) m (.ins CM dm [])) m (.ins CM dm [("content", .ref b)]) = H2 at s2 em nx ndx ⊢
  have s02 := s1.trans s2
  have s3 : Same H2 (upd H2 dx (.own x)) := same_upd ndx
  have n3 : (upd H2 dx (.own x)) x = none := by rw [upd_ne nxx.symm]; exact nx
  have s4 : Same (upd H2 dx (.own x)) (upd (upd H2 dx (.own x)) x (.ins CW dx [])) := same_upd n3
  have ex : (upd (upd H2 dx (.own x)) x (.ins CW dx [])) x = some (.ins CW dx []) := upd_same
  have s24 := s3.trans s4
  generalize upd (upd H2 dx (.own x)) x (.ins CW dx []) = H4 at s24 ex ⊢
  refine ⟨x, dx, sg, m, l, rfl, ex, hsg, .inl ⟨b, dm, s24 _ _ em, hb.same (s02.trans s24)⟩, hl, hrl, fun H' p bt e hp => ⟨rfl, q x H' (fun c o ec => ?_) ⟨dx, p, e, hp⟩⟩⟩
  have e2 := s02 _ _ ec
  exact bt _ _ (ne_of_none e2 nx) (s24 _ _ e2)
section
variable {P : Program} {w : World} {K : PySem.W.Frag} {mg : Str → Option Value} {base : Heap}
def spMul (K : PySem.W.Frag) (CW : Addr) : Sp := fun vs H Q _ => ∃ (a b : Addr) (sg : Str) (l k : Row), vs = [.ref a, .ref b] ∧ Signs sg ∧ WordAt K CW H a sg l ∧ WordAt K CW H b sg k ∧ l.length ≤ 200 ∧ k.length ≤ 200 ∧ (rowOf (l ++ k)).length ≤ 200 ∧
  ∀ x H', Same H H' → WordAt K CW H' x sg (rowOf (l ++ k)) → Q (.ref x) H'
theorem scMul : FnScope ["self", "other"] ["self", "other"] (defScope sMul) := ⟨rfl, rfl, rfl, by decide +kernel, rfl, by decide +kernel, by decide +kernel⟩
theorem ok_mul {CM CW fMI fWI f : Addr} {dMI dWI fd : FuncData} (F : Fun K "__mul__" "Word.__mul__" sMul f fd) (T : Txt K mg) (G : Makes4 P w K mg base CM CW fMI fWI dMI dWI) : FnOk P w K mg base CX0 6 f fd ["self", "other"] (spMul K CW) := by
  refine F.ok scMul (fun vs H Q E h => ?_) (fun cdv A outer s H vs Q E hr h => ?_)
  · obtain ⟨a, b, sg, l, k, rfl, _⟩ := h
    rfl
  · obtain ⟨a, b, sg, l, k, rfl, hsg, ⟨da, pa, ha, hl⟩, ⟨db, pb, hb, hk⟩, ll, lk, lr, q⟩ := h
    have r2 : Room 2 _ := hr.mono (by decide)
    refine ⟨_, pss_cons (ps_if (PW.pt (pw_or (pt_not (pt_val (pe_callB call_isi (by rfl) T.isi (by decide +kernel) (pa_cons (pv 1) (pa_cons (pe_glob (v := .ref CW) (by rfl) G.W.gW rfl) pa_nil)))))
        (pw_or1 (pt_cmpR op_ne (pe_fld (pv 1) rfl) (pe_fld (pv 0) rfl) (nomark _))))) (pss_one ps_never) pss_nil)
      (pss_one (ps_ret (pe_make G.mW G.gWI hr (by rfl) G.W.gW G.bWI .nil pass0 (pa_cons (pe_fld (pv 0) rfl) (pa_cons (pe_make G.mM G.gMI r2 (by rfl) G.W.gM G.bMI .nil pass0
        (pa_cons (pe_op op_catRow (pe_fld (pv 0) rfl) (pe_fld (pv 1) rfl)) pa_nil)) pa_nil))))), ?_⟩
    refine ⟨_, rfl, _, _, _, _, _, rfl, .own CW, G.W.tyW _ _ _ _ hb, G.W.iWW, true, rfl, ?_⟩
    refine ⟨_, rfl, b, CW, db, _, _, rfl, hb, G.W.clW, G.W.nL, rfl, _, rfl, a, CW, da, _, _, rfl, ha, G.W.clW, G.W.nL, rfl, rfl, _, rfl, ?_⟩
    rw [decide_eq_true rfl]
    refine iteF ?_
    refine ⟨_, rfl, a, CW, da, _, _, rfl, ha, G.W.clW, G.W.nL, rfl, ?_⟩
    refine ⟨_, rfl, a, CW, da, _, _, rfl, ha, G.W.clW, G.W.nR, rfl, _, rfl, b, CW, db, _, _, rfl, hb, G.W.clW, G.W.nR, rfl, ?_⟩
    refine ⟨pa, pb, l, k, rfl, rfl, hl, hk, by omega, fun p H1 s1 h1 => ?_⟩
    exact made_word G hsg h1 (by rw [List.length_append]; omega) lr fun x H' s h => q x H' (s1.trans s) h
end
end K4

set_option Elab.async false
set_option linter.all false
set_option maxRecDepth 100000
set_option maxHeartbeats 3200000
namespace K4
open PySem L2 Tx Tg Tm
abbrev sLen : Stmt := wdef 6
abbrev sEq : Stmt := wdef 8
theorem eqv_rows : ∀ l k : Row, PyData.eqvAll (rowsD l) (rowsD k) = decide (l = k)
  | [], [] => rfl
  | [], _ :: _ => rfl
  | _ :: _, [] => rfl
  | p :: l, q :: k => by
    show (((p.1 == q.1) && ((p.2 == q.2) && true)) && PyData.eqvAll (rowsD l) (rowsD k)) = _
    rw [eqv_rows l k, Bool.and_true, Bool.eq_iff_iff]
    simp only [Bool.and_eq_true, beq_iff_eq, decide_eq_true_eq, List.cons.injEq]
    constructor
    · rintro ⟨⟨h1, h2⟩, h3⟩
      exact ⟨Prod.ext h1 h2, h3⟩
    · rintro ⟨rfl, h3⟩
      exact ⟨⟨rfl, rfl⟩, h3⟩
section
variable {P : Program} {w : World} {K : PySem.W.Frag} {mg : Str → Option Value} {base : Heap}
def spInv (K : PySem.W.Frag) (CW : Addr) : Sp := fun vs H Q _ => ∃ (a : Addr) (sg : Str) (l : Row), vs = [.ref a] ∧ Signs sg ∧ WordAt K CW H a sg l ∧ l.length ≤ 200 ∧ ∀ x H', Same H H' → WordAt K CW H' x sg (rowOf (undo l)) → Q (.ref x) H'
theorem scInv : FnScope ["self"] ["self"] (defScope sInv) := ⟨rfl, rfl, rfl, by decide +kernel, rfl, by decide +kernel, by decide +kernel⟩
theorem ok_inv {CM CW fMI fWI f fU : Addr} {dMI dWI fd fdU : FuncData} (F : Fun K "__invert__" "Word.__invert__" sInv f fd) (T : Txt K mg) (G : Makes4 P w K mg base CM CW fMI fWI dMI dWI) (DU : Df K mg "undone_runs" sUndo ["runs"] fU fdU) : FnOk P w K mg base CX0 6 f fd ["self"] (spInv K CW) := by
  have GU := ok_undone (P := P) (w := w) (base := base) DU.F T
  refine F.ok scInv (fun vs H Q E h => ?_) (fun cdv A outer s H vs Q E hr h => ?_)
  · obtain ⟨a, sg, l, rfl, _⟩ := h
    rfl
  · obtain ⟨a, sg, l, rfl, hsg, ⟨da, pa, ha, hl⟩, ll, q⟩ := h
    have r1 : Room 1 _ := hr.mono (by decide)
    have r2 : Room 2 _ := hr.mono (by decide)
    refine ⟨_, pss_one (ps_ret (pe_make G.mW G.gWI hr (by rfl) G.W.gW G.bWI .nil pass0 (pa_cons (pe_fld (pv 0) rfl) (pa_cons (pe_make G.mM G.gMI r2 (by rfl) G.W.gM G.bMI .nil pass0
        (pa_cons (pe_call GU r1 (by rfl) DU.m DU.F.kp DU.b .nil pass0 (pa_cons (pe_fld (pv 0) rfl) pa_nil)) pa_nil)) pa_nil)))), ?_⟩
    refine ⟨_, rfl, a, CW, da, _, _, rfl, ha, G.W.clW, G.W.nL, rfl, ?_⟩
    refine ⟨_, rfl, a, CW, da, _, _, rfl, ha, G.W.clW, G.W.nR, rfl, ?_⟩
    refine ⟨pa, l, rfl, hl, by omega, fun p H1 s1 h1 => ?_⟩
    have := rowOf_len (undo l)
    have e := undo_len l
    exact made_word G hsg h1 (by omega) (by omega) fun x H' s h => q x H' (s1.trans s) h
def spLen (K : PySem.W.Frag) (CW : Addr) : Sp := fun vs H Q _ => ∃ (a : Addr) (sg : Str) (l : Row), vs = [.ref a] ∧ WordAt K CW H a sg l ∧ Q (.int (l.length : Nat)) H
theorem scLen : FnScope ["self"] ["self"] (defScope sLen) := ⟨rfl, rfl, rfl, by decide +kernel, rfl, by decide +kernel, by decide +kernel⟩
theorem ok_len {CM CW f : Addr} {fd : FuncData} (F : Fun K "__len__" "Word.__len__" sLen f fd) (T : Txt K mg) (W : WF K mg CM CW) : FnOk P w K mg base CX0 1 f fd ["self"] (spLen K CW) := by
  refine F.ok scLen (fun vs H Q E h => ?_) (fun cdv A outer s H vs Q E hr h => ?_)
  · obtain ⟨a, sg, l, rfl, _⟩ := h
    rfl
  · obtain ⟨a, sg, l, rfl, ⟨da, pa, ha, ys, hy, hp⟩, q⟩ := h
    refine ⟨_, pss_one (ps_ret (pe_callB call_len_seq (by rfl) T.len PySem.boot_len (pa_cons (pe_fld (pv 0) rfl) pa_nil))), ?_⟩
    refine ⟨_, rfl, a, CW, da, _, _, rfl, ha, W.clW, W.nR, rfl, pa, ys, rfl, .inr hy, ?_⟩
    rw [hp.length]
    exact q
def spEq (K : PySem.W.Frag) (CW : Addr) : Sp := fun vs H Q _ => ∃ (a b : Addr) (sg : Str) (l k : Row), vs = [.ref a, .ref b] ∧ WordAt K CW H a sg l ∧ WordAt K CW H b sg k ∧ Pl l ∧ Pl k ∧ Q (.bl (decide (l = k))) H
theorem scEq : FnScope ["self", "other"] ["self", "other"] (defScope sEq) := ⟨rfl, rfl, rfl, by decide +kernel, rfl, by decide +kernel, by decide +kernel⟩
theorem ok_eq {CM CW f : Addr} {fd : FuncData} (F : Fun K "__eq__" "Word.__eq__" sEq f fd) (T : Txt K mg) (W : WF K mg CM CW) : FnOk P w K mg base CX0 1 f fd ["self", "other"] (spEq K CW) := by
  refine F.ok scEq (fun vs H Q E h => ?_) (fun cdv A outer s H vs Q E hr h => ?_)
  · obtain ⟨a, b, sg, l, k, rfl, _⟩ := h
    rfl
  · obtain ⟨a, b, sg, l, k, rfl, ⟨da, pa, ha, xs, hx, px⟩, ⟨db, pb, hb, ys, hy, py⟩, pl, pk, q⟩ := h
    refine ⟨_, pss_one (ps_ret (pe_and (pe_callB call_isi (by rfl) T.isi (by decide +kernel) (pa_cons (pv 1) (pa_cons (pe_glob (v := .ref CW) (by rfl) W.gW rfl) pa_nil)))
      (pe_and (pe_cmpR op_eq (pe_fld (pv 0) rfl) (pe_fld (pv 1) rfl) (nomark _)) (pe_one (pe_cmpR (op_eqD hr.units) (pe_fld (pv 0) rfl) (pe_fld (pv 1) rfl) (nomark _)))))), ?_⟩
    refine ⟨_, rfl, _, _, _, _, _, rfl, .own CW, W.tyW _ _ _ _ hb, W.iWW, true, rfl, iteT ?_⟩
    refine ⟨_, rfl, a, CW, da, _, _, rfl, ha, W.clW, W.nL, rfl, _, rfl, b, CW, db, _, _, rfl, hb, W.clW, W.nL, rfl, rfl, _, rfl, ?_⟩
    rw [decide_eq_true rfl]
    refine iteT ?_
    refine ⟨_, rfl, a, CW, da, _, _, rfl, ha, W.clW, W.nR, rfl, _, rfl, b, CW, db, _, _, rfl, hb, W.clW, W.nR, rfl, ?_⟩
    refine ⟨.tuple (rowsD l), .tuple (rowsD k), .tup hx (rows_all px), .tup hy (rows_all py), shaped_row pl, shaped_row pk, ?_⟩
    have e : PyData.eqv (.tuple (rowsD l)) (.tuple (rowsD k)) = decide (l = k) := eqv_rows l k
    rw [e]
    exact q
end
end K4

set_option Elab.async false
set_option linter.all false
set_option maxRecDepth 100000
set_option maxHeartbeats 3200000
namespace K4
open PySem L2 Tx Tg Tm
abbrev sTurned : Stmt := wdef 13
abbrev sBrack : Stmt := wdef 14
abbrev sLike : Stmt := wdef 17
section
variable {P : Program} {w : World} {K : PySem.W.Frag} {mg : Str → Option Value} {base : Heap}
def spCW (K : PySem.W.Frag) (CW : Addr) : Sp := fun vs H Q _ => ∃ (b : Addr) (sg : Str) (k : Row), vs = [.ref b] ∧ WordAt K CW H b sg k ∧ Q .non H
theorem scCW : FnScope ["value"] ["value"] (defScope sCheckWord) := ⟨rfl, rfl, rfl, by decide +kernel, rfl, by decide +kernel, by decide +kernel⟩
theorem ok_cw {CM CW f : Addr} {fd : FuncData} (F : Fun K "check_word" "check_word" sCheckWord f fd) (T : Txt K mg) (W : WF K mg CM CW) : FnOk P w K mg base CX0 1 f fd ["value"] (spCW K CW) := by
  refine F.ok scCW (fun vs H Q E h => ?_) (fun cdv A outer s H vs Q E hr h => ?_)
  · obtain ⟨b, sg, k, rfl, _⟩ := h
    rfl
  · obtain ⟨b, sg, k, rfl, ⟨db, pb, hb, hk⟩, q⟩ := h
    refine ⟨_, pss_one (ps_if (pt_not (pt_val (pe_callB call_isi (by rfl) T.isi (by decide +kernel) (pa_cons (pv 0) (pa_cons (pe_glob (v := .ref CW) (by rfl) W.gW rfl) pa_nil))))) (pss_one ps_never) pss_nil), ?_⟩
    refine ⟨_, rfl, _, _, _, _, _, rfl, .own CW, W.tyW _ _ _ _ hb, W.iWW, true, rfl, ?_⟩
    exact q
def spLike (K : PySem.W.Frag) (CW : Addr) : Sp := fun vs H Q _ => ∃ (a b : Addr) (sg : Str) (l k : Row), vs = [.ref a, .ref b] ∧ WordAt K CW H a sg l ∧ WordAt K CW H b sg k ∧ Q .non H
theorem scLike : FnScope ["self", "other"] ["self", "other"] (defScope sLike) := ⟨rfl, rfl, rfl, by decide +kernel, rfl, by decide +kernel, by decide +kernel⟩
theorem ok_like {CM CW f fC : Addr} {fd fdC : FuncData} (F : Fun K "_check_like" "Word._check_like" sLike f fd) (T : Txt K mg) (W : WF K mg CM CW) (DC : Df K mg "check_word" sCheckWord ["value"] fC fdC) : FnOk P w K mg base CX0 2 f fd ["self", "other"] (spLike K CW) := by
  have G := ok_cw (P := P) (w := w) (base := base) DC.F T W
  refine F.ok scLike (fun vs H Q E h => ?_) (fun cdv A outer s H vs Q E hr h => ?_)
  · obtain ⟨a, b, sg, l, k, rfl, _⟩ := h
    rfl
  · obtain ⟨a, b, sg, l, k, rfl, ⟨da, pa, ha, hl⟩, ⟨db, pb, hb, hk⟩, q⟩ := h
    refine ⟨_, pss_cons (ps_expr (pe_call G hr (by rfl) DC.m DC.F.kp DC.b .nil pass0 (pa_cons (pv 1) pa_nil)))
      (pss_one (ps_if (pt_cmpR op_ne (pe_fld (pv 1) rfl) (pe_fld (pv 0) rfl) (nomark _)) (pss_one ps_never) pss_nil)), ?_⟩
    refine ⟨_, rfl, b, sg, k, rfl, ⟨db, pb, hb, hk⟩, ?_⟩
    refine ⟨_, rfl, b, CW, db, _, _, rfl, hb, W.clW, W.nL, rfl, _, rfl, a, CW, da, _, _, rfl, ha, W.clW, W.nL, rfl, rfl, _, rfl, ?_⟩
    rw [decide_eq_true rfl]
    exact iteF q
def turnL (l k : Row) : Row := rowOf (k ++ l ++ undo k)
def spW2 (K : PySem.W.Frag) (CW : Addr) (g : Row → Row → Row) : Sp := fun vs H Q _ => ∃ (a b : Addr) (sg : Str) (l k : Row), vs = [.ref a, .ref b] ∧ Signs sg ∧ WordAt K CW H a sg l ∧ WordAt K CW H b sg k ∧ l.length ≤ 100 ∧ k.length ≤ 100 ∧ Pl l ∧ Pl k ∧ (g l k).length ≤ 200 ∧
  ∀ x H', Same H H' → WordAt K CW H' x sg (g l k) → Q (.ref x) H'
theorem scTurned : FnScope ["self", "other"] ["self", "other"] (defScope sTurned) := ⟨rfl, rfl, rfl, by decide +kernel, rfl, by decide +kernel, by decide +kernel⟩
theorem ok_turned {CM CW fMI fWI f fC fU fK : Addr} {dMI dWI fd fdC fdU fdK : FuncData} (F : Fun K "turned" "Word.turned" sTurned f fd) (T : Txt K mg) (G : Makes4 P w K mg base CM CW fMI fWI dMI dWI) (DU : Df K mg "undone_runs" sUndo ["runs"] fU fdU)
    (GK : FnOk P w K mg base CX0 2 fK fdK ["self", "other"] (spLike K CW)) (mK : Meth K CW "_check_like" fK) (bK : Binds K fdK ["self", "other"] []) : FnOk P w K mg base CX0 6 f fd ["self", "other"] (spW2 K CW turnL) := by
  have GU := ok_undone (P := P) (w := w) (base := base) DU.F T
  refine F.ok scTurned (fun vs H Q E h => ?_) (fun cdv A outer s H vs Q E hr h => ?_)
  · obtain ⟨a, b, sg, l, k, rfl, _⟩ := h
    rfl
  · obtain ⟨a, b, sg, l, k, rfl, hsg, ⟨da, pa, ha, hl⟩, ⟨db, pb, hb, hk⟩, ll, lk, pl, pk, lr, q⟩ := h
    have r1 : Room 1 _ := hr.mono (by decide)
    have r2 : Room 2 _ := hr.mono (by decide)
    refine ⟨_, pss_cons (ps_expr (pe_meth (pv 0) G.W.clW mK GK r2 bK .nil pass0 (pa_cons (pv 1) pa_nil)))
      (pss_one (ps_ret (pe_make G.mW G.gWI hr (by rfl) G.W.gW G.bWI .nil pass0 (pa_cons (pe_fld (pv 0) rfl) (pa_cons (pe_make G.mM G.gMI r2 (by rfl) G.W.gM G.bMI .nil pass0
        (pa_cons (pe_op op_catRow (pe_op op_catRow (pe_fld (pv 1) rfl) (pe_fld (pv 0) rfl)) (pe_call GU r1 (by rfl) DU.m DU.F.kp DU.b .nil pass0 (pa_cons (pe_fld (pv 1) rfl) pa_nil))) pa_nil)) pa_nil))))), ?_⟩
    refine ⟨_, rfl, a, da, _, rfl, ha, rfl, _, rfl, a, b, sg, l, k, rfl, ⟨da, pa, ha, hl⟩, ⟨db, pb, hb, hk⟩, ?_⟩
    refine ⟨_, rfl, a, CW, da, _, _, rfl, ha, G.W.clW, G.W.nL, rfl, ?_⟩
    refine ⟨_, rfl, b, CW, db, _, _, rfl, hb, G.W.clW, G.W.nR, rfl, _, rfl, a, CW, da, _, _, rfl, ha, G.W.clW, G.W.nR, rfl, ?_⟩
    refine ⟨pb, pa, k, l, rfl, rfl, hk, hl, by omega, fun p1 H1 s1 h1 => ?_⟩
    refine ⟨_, rfl, b, CW, db, _, _, rfl, s1 _ _ hb, G.W.clW, G.W.nR, rfl, ?_⟩
    refine ⟨pb, k, rfl, hk.same s1, by omega, fun p2 H2 s2 h2 => ?_⟩
    refine ⟨p1, p2, _, _, rfl, rfl, h1.same s2, h2, by rw [List.length_append, undo_len]; omega, fun p3 H3 s3 h3 => ?_⟩
    exact made_word G hsg h3 (by rw [List.length_append, List.length_append, undo_len]; omega) lr fun x H' s h => q x H' (((s1.trans s2).trans s3).trans s) h
theorem scBrack : FnScope ["self", "other"] ["self", "other"] (defScope sBrack) := ⟨rfl, rfl, rfl, by decide +kernel, rfl, by decide +kernel, by decide +kernel⟩
theorem ok_brackm {CM CW fMI fWI f fB fK : Addr} {dMI dWI fd fdB fdK : FuncData} (F : Fun K "bracket" "Word.bracket" sBrack f fd) (T : Txt K mg) (G : Makes4 P w K mg base CM CW fMI fWI dMI dWI) (DB : Df K mg "bracket_runs" sBracket ["one", "other"] fB fdB)
    (GB : FnOk P w K mg base CX0 2 fB fdB ["one", "other"] (spRow2 K 100000 brackL)) (GK : FnOk P w K mg base CX0 2 fK fdK ["self", "other"] (spLike K CW)) (mK : Meth K CW "_check_like" fK) (bK : Binds K fdK ["self", "other"] []) : FnOk P w K mg base CX0 6 f fd ["self", "other"] (spW2 K CW brackL) := by
  refine F.ok scBrack (fun vs H Q E h => ?_) (fun cdv A outer s H vs Q E hr h => ?_)
  · obtain ⟨a, b, sg, l, k, rfl, _⟩ := h
    rfl
  · obtain ⟨a, b, sg, l, k, rfl, hsg, ⟨da, pa, ha, hl⟩, ⟨db, pb, hb, hk⟩, ll, lk, pl, pk, lr, q⟩ := h
    have r2 : Room 2 _ := hr.mono (by decide)
    refine ⟨_, pss_cons (ps_expr (pe_meth (pv 0) G.W.clW mK GK r2 bK .nil pass0 (pa_cons (pv 1) pa_nil)))
      (pss_one (ps_ret (pe_make G.mW G.gWI hr (by rfl) G.W.gW G.bWI .nil pass0 (pa_cons (pe_fld (pv 0) rfl) (pa_cons (pe_make G.mM G.gMI r2 (by rfl) G.W.gM G.bMI .nil pass0
        (pa_cons (pe_call GB r2 (by rfl) DB.m DB.F.kp DB.b .nil pass0 (pa_cons (pe_fld (pv 0) rfl) (pa_cons (pe_fld (pv 1) rfl) pa_nil))) pa_nil)) pa_nil))))), ?_⟩
    refine ⟨_, rfl, a, da, _, rfl, ha, rfl, _, rfl, a, b, sg, l, k, rfl, ⟨da, pa, ha, hl⟩, ⟨db, pb, hb, hk⟩, ?_⟩
    refine ⟨_, rfl, a, CW, da, _, _, rfl, ha, G.W.clW, G.W.nL, rfl, ?_⟩
    refine ⟨_, rfl, a, CW, da, _, _, rfl, ha, G.W.clW, G.W.nR, rfl, _, rfl, b, CW, db, _, _, rfl, hb, G.W.clW, G.W.nR, rfl, ?_⟩
    refine ⟨pa, pb, l, k, rfl, hl, hk, by omega, by omega, pl, pk, fun p1 H1 s1 h1 => ?_⟩
    have e1 : (brackL l k).length ≤ 100000 := by omega
    have e2 : rowOf (brackL l k) = brackL l k := by
      unfold rowOf brackL
      have hr0 : Wm.Red (Wm.joint [] (l ++ k ++ undo l ++ undo k)) := Wm.red_joint (r := ([] : Row)) trivial
      show (Wm.joint [] (rowOf (l ++ k ++ undo l ++ undo k))).reverse = rowOf (l ++ k ++ undo l ++ undo k)
      unfold rowOf
      rw [Wm.joint_self hr0]
    refine made_word G hsg h1 e1 (by rw [e2]; exact lr) fun x H' s h => ?_
    rw [e2] at h
    exact q x H' (s1.trans s) h
end
end K4

set_option Elab.async false
set_option linter.all false
set_option maxRecDepth 100000
set_option maxHeartbeats 3200000
/-! a tuple so many times: none, once, of nothing -/
namespace Tr
open PySem PySem.Spec PyProof.Rows L2
theorem mul_sameW (l : Addr) (items : Array Value) (n : Nat) (dd : Option Addr) (sl : Array (Option Value)) (x : Int) (u : Tok) (c0 : (decide (x < -(2 ^ 63)) || decide (x ≥ 2 ^ 63)) = false) (c1 : (items.isEmpty || x == 1) = true) :
    Meets (Builtin.«tuple.__mul__» ⟨[.ref l, .int x u], []⟩) (fun _ R s => s.heap.get? l = some { cls := .type "tuple", dict := dd, data := .seq items n, slots := sl } ∧ R (.ok (.ret (Value.ref l))) s) :=
  .of_wp fun prog w A R s h => by
    obtain ⟨hp, g, d, tk, os⟩ := s
    obtain ⟨hl, h⟩ := h
    have f1 := AutoSeq1.idx_int
    wp_walk using wpAny_loadPart' hl
    repeat (first
      | (refine wpAny_ite_false (decide_eq_false (by rw [c0]; exact Bool.false_ne_true)) ?_; wp_walk using wpAny_loadPart' hl)
      | (refine wpAny_ite_true (decide_eq_true c1) ?_; wp_walk using wpAny_loadPart' hl))
    exact ⟨_, rfl, h⟩
theorem mul_noneW (l : Addr) (items : Array Value) (n : Nat) (dd : Option Addr) (sl : Array (Option Value)) (x : Int) (u : Tok) (c0 : (decide (x < -(2 ^ 63)) || decide (x ≥ 2 ^ 63)) = false) (c1 : (items.isEmpty || x == 1) = false) (c2 : (decide (x ≤ 0) || items.isEmpty) = true) :
    Meets (Builtin.«tuple.__mul__» ⟨[.ref l, .int x u], []⟩) (fun _ R s => s.heap.get? l = some { cls := .type "tuple", dict := dd, data := .seq items n, slots := sl } ∧
      R (.ok (.ret (Value.ref s.heap.objs.size))) { s with heap := s.heap.push { cls := Value.type "tuple", data := Data.seq #[] }, toks := s.toks }) :=
  .of_wp fun prog w A R s h => by
    obtain ⟨hp, g, d, tk, os⟩ := s
    obtain ⟨hl, h⟩ := h
    have f1 := AutoSeq1.idx_int
    wp_walk using wpAny_loadPart' hl
    repeat (first
      | (refine wpAny_ite_false (decide_eq_false (by rw [c0]; exact Bool.false_ne_true)) ?_; wp_walk using wpAny_loadPart' hl)
      | (refine wpAny_ite_false (decide_eq_false (by rw [c1]; exact Bool.false_ne_true)) ?_; wp_walk using wpAny_loadPart' hl)
      | (refine wpAny_ite_true (decide_eq_true c2) ?_; wp_walk using wpAny_loadPart' hl))
    exact ⟨_, rfl, h⟩
/-- a tuple, so many times, 0 and 1 and nothing among them -/
def rRepA (K : PySem.W.Frag) : R2 := fun x y H Q => ∃ l k xs, x = .ref l ∧ y = .int k ∧ SqT K H l xs ∧ 0 ≤ k ∧ k ≤ 1000 ∧ xs.length ≤ 1000 ∧
  ((k = 1 ∨ xs = []) → Q (.ref l) H) ∧ (¬ (k = 1 ∨ xs = []) → ∀ p, H p = none → Q (.ref p) (upd H p (.tup (List.replicate k.toNat xs).flatten)))
theorem op_repA {X : Cx} : OpR X (binaryOp .Mult) (rRepA X.K) := by
  intro pins s σ H x y v u Q I rx ry h
  obtain ⟨l, k, xs, rfl, rfl, hT, h1, h2, hz, q1, q2⟩ := h
  by_cases big : xs ≠ [] ∧ 2 ≤ k
  · exact op_repT pins s σ H _ _ v u Q I rx ry ⟨l, k, xs, rfl, rfl, hT, big.1, big.2, h2, hz, q2 (fun e => e.elim (fun e => by omega) big.1)⟩
  · cases rx
    obtain ⟨t, rfl⟩ := ry
    obtain ⟨its, r, ⟨⟨cls, dd, data, sl⟩, ho, hc, n, hd⟩, hs⟩ := I.tuple hT
    simp only at hc hd
    subst hc hd
    have hle : its.length = xs.length := r.length.symm
    have c0 : (decide (k < -(2 ^ 63)) || decide (k ≥ 2 ^ 63)) = false := by
      rw [decide_eq_false (by omega), decide_eq_false (by omega)] <;> rfl
    have emp : its.toArray.isEmpty = decide (xs = []) := by
      cases its with
      | nil =>
        have : xs = [] := List.eq_nil_of_length_eq_zero hle.symm
        rw [decide_eq_true this]
        rfl
      | cons a b =>
        have : xs ≠ [] := fun e => by rw [e] at hle; cases hle
        rw [decide_eq_false this]
        rfl
    by_cases one : k = 1 ∨ xs = []
    · have c1 : (its.toArray.isEmpty || k == 1) = true := by
        rw [emp]
        rcases one with e | e
        · rw [e]; simp
        · rw [decide_eq_true e]; rfl
      exact wpAny_binaryOp_repeat_ref (T := "tuple") (U := "int") (by decide) ⟨_, ho, rfl⟩ (fun s' => typeIs_int s' k t) noFill_tuple_mul F.fills_int_mul F.slot_int_rmul repeat_tuple F.slot_int_index.lookup
        (call_meets F.slot_int_rmul (typeIs_int s k t) F.entry_int_rmul (F.args_int_rmul_2 _ _) (int_rmul_tuple k t l its.toArray n dd sl)
          ⟨ho, rfl, ⟨_, ho, rfl⟩, call_meets F.slot_tuple_mul ⟨_, ho, rfl⟩ F.entry_tuple_mul (F.args_tuple_mul_2 _ _) (mul_sameW l its.toArray n dd sl k t c0 c1) ⟨ho, ⟨.ref l, H, I, rfl, q1 one⟩⟩⟩)
    · have hne : xs ≠ [] := fun e => one (.inr e)
      have k0 : k = 0 := by
        have : ¬ 2 ≤ k := fun e => big ⟨hne, e⟩
        have : k ≠ 1 := fun e => one (.inl e)
        omega
      subst k0
      have c1 : (its.toArray.isEmpty || (0 : Int) == 1) = false := by rw [emp, decide_eq_false hne]; rfl
      have c2 : (decide ((0 : Int) ≤ 0) || its.toArray.isEmpty) = true := rfl
      refine wpAny_binaryOp_repeat_ref (T := "tuple") (U := "int") (by decide) ⟨_, ho, rfl⟩ (fun s' => typeIs_int s' 0 t) noFill_tuple_mul F.fills_int_mul F.slot_int_rmul repeat_tuple F.slot_int_index.lookup
        (call_meets F.slot_int_rmul (typeIs_int s 0 t) F.entry_int_rmul (F.args_int_rmul_2 _ _) (int_rmul_tuple 0 t l its.toArray n dd sl)
          ⟨ho, rfl, ⟨_, ho, rfl⟩, call_meets F.slot_tuple_mul ⟨_, ho, rfl⟩ F.entry_tuple_mul (F.args_tuple_mul_2 _ _) (mul_noneW l its.toArray n dd sl 0 t c0 c1 c2) ⟨ho, ?_⟩⟩)
      refine ⟨.ref s.heap.objs.size, _, I.laid (t' := s.toks) (o := .tup []) (fun b ob q => Heap.get?_push_of_some _ q) (Nat.le_refl _) ?_, rfl, q2 one _ (I.hok.fresh (Nat.le_refl _))⟩
      exact ⟨by decide, _, .nil, IsTup.new _ _⟩
end Tr
namespace K4
open PySem L2 Tx Tg Tm
def timesL (l : Row) (n : Nat) : Row := (List.replicate n l).flatten
theorem timesL_len (l : Row) (n : Nat) : (timesL l n).length = n * l.length := PyProof.Rows.lm_len_rep_flat ..
theorem pairs_times {H : Hp} {ys : List V} {l : Row} (h : PairsAt H ys l) : ∀ n, PairsAt H (List.replicate n ys).flatten (timesL l n)
  | 0 => .nil
  | n + 1 => each_app h (pairs_times h n)
def rRepRow (K : PySem.W.Frag) : R2 := fun x y H Q => ∃ a l k, x = .ref a ∧ y = .int k ∧ TupRow K H a l ∧ 0 ≤ k ∧ k ≤ 1000 ∧ l.length ≤ 1000 ∧ ∀ p H', Same H H' → TupRow K H' p (timesL l k.natAbs) → Q (.ref p) H'
theorem op_repRow {X : Cx} : OpR X (binaryOp .Mult) (rRepRow X.K) := by
  intro pins s σ H x y v u Q I rx ry h
  obtain ⟨a, l, k, rfl, rfl, ⟨ys, hy, hp⟩, h1, h2, hl, q⟩ := h
  have hle : ys.length = l.length := hp.length
  refine Tr.op_repA pins s σ H _ _ v u Q I rx ry ⟨a, k, ys, rfl, rfl, hy, h1, h2, by omega, fun e => ?_, fun e p np => ?_⟩
  · rcases e with e | e
    · subst e
      exact q a H (Same.refl H) (by
        show TupRow _ H a (l ++ [])
        rw [List.append_nil]
        exact ⟨ys, hy, hp⟩)
    · subst e
      cases hp
      have : timesL [] k.natAbs = [] := List.eq_nil_of_length_eq_zero (by rw [timesL_len]; exact Nat.mul_zero _)
      rw [this] at q
      exact q a H (Same.refl H) ⟨[], hy, .nil⟩
  · have ek : k.toNat = k.natAbs := by omega
    rw [ek]
    exact q p _ (same_upd np) (.new upd_same (PairsAt.same (same_upd np) (pairs_times hp _)))
end K4

set_option linter.all false
/-! the group of rows, as a type; powers, turned ones, brackets -/
namespace Wm
variable {α : Type} [DecidableEq α]
abbrev G (α : Type) [DecidableEq α] := {r : List (α × Int) // Red r}
def one : G α := ⟨[], trivial⟩
def m (a b : G α) : G α := ⟨mul a.1 b.1, red_mul a.2⟩
def i (a : G α) : G α := ⟨inv a.1, red_inv a.2⟩
theorem m_assoc (a b c : G α) : m (m a b) c = m a (m b c) := Subtype.ext (mul_assoc a.2 b.2)
theorem m_one (a : G α) : m a one = a := Subtype.ext (mul_nil a.1)
theorem one_m (a : G α) : m one a = a := Subtype.ext (nil_mul a.2)
theorem m_i (a : G α) : m a (i a) = one := Subtype.ext (mul_inv a.2)
theorem i_m (a : G α) : m (i a) a = one := Subtype.ext (inv_mul a.2)
theorem i_m_c (a b : G α) : m (i a) (m a b) = b := by rw [← m_assoc, i_m, one_m]
theorem m_i_c (a b : G α) : m a (m (i a) b) = b := by rw [← m_assoc, m_i, one_m]
theorem i_uniq {a b : G α} (h : m a b = one) : i a = b := by
  have := i_m_c a b
  rw [h, m_one] at this
  exact this
theorem i_i (a : G α) : i (i a) = a := i_uniq (i_m a)
theorem i_one : i (one : G α) = one := i_uniq (one_m _)
theorem i_mul (a b : G α) : i (m a b) = m (i b) (i a) := i_uniq (by rw [m_assoc, m_i_c, m_i])
def np (a : G α) : Nat → G α
  | 0 => one
  | n + 1 => m (np a n) a
def zp (a : G α) (z : Int) : G α := if z > 0 then np a z.natAbs else np (i a) z.natAbs
def tu (l k : G α) : G α := m (m k l) (i k)
def br (l k : G α) : G α := m (m (m l k) (i l)) (i k)
theorem zp_zero (a : G α) : zp a 0 = one := rfl
theorem zp_succ (a : G α) (x : Int) : zp a (x + 1) = m (zp a x) a := by
  unfold zp
  by_cases h : x > 0
  · rw [if_pos (show x + 1 > 0 by omega), if_pos h, show (x + 1).natAbs = x.natAbs + 1 by omega]
    rfl
  · rw [if_neg h]
    by_cases h0 : x = 0
    · subst h0
      show np a 1 = m one a
      show m one a = m one a
      rfl
    · rw [if_neg (show ¬ x + 1 > 0 by omega)]
      obtain ⟨k, hk⟩ : ∃ k, x.natAbs = k + 1 := ⟨x.natAbs - 1, by omega⟩
      rw [hk, show (x + 1).natAbs = k by omega]
      show np (i a) k = m (m (np (i a) k) (i a)) a
      rw [m_assoc, i_m, m_one]
theorem zp_pred (a : G α) (x : Int) : zp a (x - 1) = m (zp a x) (i a) := by
  have := zp_succ a (x - 1)
  rw [show x - 1 + 1 = x by omega] at this
  rw [this, m_assoc, m_i, m_one]
theorem zp_add_nat (a : G α) (x : Int) : ∀ n : Nat, m (zp a x) (zp a (n : Int)) = zp a (x + n)
  | 0 => by
    show m (zp a x) (zp a 0) = zp a (x + 0)
    rw [zp_zero, m_one, Int.add_zero]
  | n + 1 => by
    rw [show ((n + 1 : Nat) : Int) = (n : Int) + 1 by omega, zp_succ, ← m_assoc, zp_add_nat a x n, ← zp_succ, Int.add_assoc]
theorem zp_add_neg (a : G α) (x : Int) : ∀ n : Nat, m (zp a x) (zp a (-(n : Int))) = zp a (x - n)
  | 0 => by
    show m (zp a x) (zp a 0) = zp a (x - 0)
    rw [zp_zero, m_one, Int.sub_zero]
  | n + 1 => by
    rw [show -((n + 1 : Nat) : Int) = -(n : Int) - 1 by omega, zp_pred, ← m_assoc, zp_add_neg a x n, ← zp_pred, show x - (n : Int) - 1 = x - ((n + 1 : Nat) : Int) by omega]
theorem zp_add (a : G α) (x y : Int) : m (zp a x) (zp a y) = zp a (x + y) := by
  rcases Int.le_total 0 y with h | h
  · obtain ⟨n, rfl⟩ := Int.eq_ofNat_of_zero_le h
    exact zp_add_nat a x n
  · obtain ⟨n, e⟩ := Int.eq_ofNat_of_zero_le (show 0 ≤ -y by omega)
    obtain rfl : y = -(n : Int) := by omega
    exact zp_add_neg a x n
theorem tu_mul (a b c : G α) : tu (m a b) c = m (tu a c) (tu b c) := by
  unfold tu
  simp only [m_assoc, i_m_c]
theorem tu_one (c : G α) : tu one c = one := by
  unfold tu
  rw [m_one, m_i]
theorem tu_i (a c : G α) : tu (i a) c = i (tu a c) := by
  unfold tu
  simp only [i_mul, i_i, m_assoc]
theorem tu_np (a b : G α) : ∀ n, tu (np a n) b = np (tu a b) n
  | 0 => tu_one b
  | n + 1 => by
    show tu (m (np a n) a) b = m (np (tu a b) n) (tu a b)
    rw [tu_mul, tu_np a b n]
theorem tu_zp (a b : G α) (n : Int) : tu (zp a n) b = zp (tu a b) n := by
  unfold zp
  split
  · exact tu_np a b _
  · rw [tu_np, tu_i]
theorem tu_tu (a b c : G α) : tu (tu a b) c = tu a (m c b) := by
  unfold tu
  simp only [i_mul, m_assoc]
theorem tu_br (a b c : G α) : tu (br a b) c = br (tu a c) (tu b c) := by
  unfold br
  rw [tu_mul, tu_mul, tu_mul, tu_i, tu_i]
theorem br_br (a b : G α) : m (br a b) (br b a) = one := by
  unfold br
  simp only [m_assoc, i_m_c, m_i_c, m_i]
theorem br_tu (a b : G α) : br a b = m a (i (tu a b)) := by
  unfold br tu
  simp only [i_mul, i_i, m_assoc]
end Wm

set_option Elab.async false
set_option linter.all false
set_option maxRecDepth 100000
set_option maxHeartbeats 3200000
namespace K4
open PySem L2 Tx Tg Tm
abbrev sPow : Stmt := wdef 12
theorem small_int {v : Int} (h : v.natAbs ≤ 1000) : isInt (.int v) = true := by
  rw [← isInt_abs]
  have : (1000 : Int) < 10 ^ 200 := by decide +kernel
  exact decide_eq_true (by split <;> omega)
section
variable {P : Program} {w : World} {K : PySem.W.Frag} {mg : Str → Option Value} {base : Heap}
def spBetween : Sp := fun vs H Q _ => ∃ (v a b : Int), vs = [.int v, .int a, .int b] ∧ a ≤ v ∧ v ≤ b ∧ v.natAbs ≤ 1000 ∧ Q .non H
theorem scBetween : FnScope ["value", "least", "most"] ["value", "least", "most"] (defScope sBetween) := ⟨rfl, rfl, rfl, by decide +kernel, rfl, by decide +kernel, by decide +kernel⟩
theorem ok_between {f fI : Addr} {fd fdI : FuncData} (F : Fun K "check_between" "check_between" sBetween f fd) (T : Txt K mg) (DI : Df K mg "is_integer" sInt ["value"] fI fdI) : FnOk P w K mg base CX0 2 f fd ["value", "least", "most"] spBetween := by
  have G := ok_int (P := P) (w := w) (base := base) DI.F T
  refine F.ok scBetween (fun vs H Q E h => ?_) (fun cdv A outer s H vs Q E hr h => ?_)
  · obtain ⟨v, a, b, rfl, _⟩ := h
    rfl
  · obtain ⟨v, a, b, rfl, h1, h2, h3, q⟩ := h
    refine ⟨_, pss_one (ps_if (PW.pt (pw_or (pt_not (pt_val (pe_call G hr (by rfl) DI.m DI.F.kp DI.b .nil pass0 (pa_cons (pv 0) pa_nil))))
      (pw_or (pt_cmpR op_lt (pv 0) (pv 1) (nomark _)) (pw_or1 (pt_cmpR op_gt (pv 0) (pv 2) (nomark _)))))) (pss_one ps_never) pss_nil), ?_⟩
    refine ⟨_, rfl, .int v, .int v, rfl, .int v, ⟨_, rfl, ?_⟩⟩
    rw [small_int h3]
    refine iteF ⟨_, rfl, _, rfl, _, _, rfl, rfl, _, rfl, ?_⟩
    rw [decide_eq_false (show ¬ v < a by omega)]
    refine iteF ⟨_, rfl, _, rfl, _, _, rfl, rfl, _, rfl, ?_⟩
    have e : decide (v > b) = false := decide_eq_false (by omega)
    rw [e]
    exact iteF q
def powL (l : Row) (m : Int) : Row := rowOf (timesL (if m > 0 then l else undo l) m.natAbs)
def spPow (K : PySem.W.Frag) (CW : Addr) : Sp := fun vs H Q _ => ∃ (a : Addr) (sg : Str) (l : Row) (m : Int), vs = [.ref a, .int m] ∧ Signs sg ∧ WordAt K CW H a sg l ∧ l.length ≤ 200 ∧ m.natAbs ≤ 400 ∧ (powL l m).length ≤ 200 ∧
  ∀ x H', Same H H' → WordAt K CW H' x sg (powL l m) → Q (.ref x) H'
abbrev nPow : List Str := ["self", "number", "once"]
theorem scPow : FnScope nPow ["self", "number"] (defScope sPow) := ⟨rfl, rfl, rfl, by decide +kernel, rfl, by decide +kernel, by decide +kernel⟩
theorem read_once {σ : L2.St} {H : Hp} {a da pa CW : Addr} {fs : List (Str × V)} {l : Row} {m : Int} {R : V → Hp → Prop} (h0 : σ[0]? = some (some (.ref a))) (h1 : σ[1]? = some (some (.int m))) (ha : H a = some (.ins CW da fs)) (hl : TupRow K H pa l) (ll : l.length ≤ 1000000)
    (cl : Cls K CW) (nR : NoAttr K CW "_runs") (hf : fs.lookup ("_runs" : Str) = some (V.ref pa)) (h : ∀ b H', Same H H' → TupRow K H' b (if m > 0 then l else undo l) → R (.ref b) H') :
    tIf (tTest (tOp (rI0 fun i j => V.bl (decide (i > j))) (tVar 1) (tC (.int 0)))) (tFld K (tVar 0) "_runs") (tCall (spRow1 K undo) [] E0 (tCons (tFld K (tVar 0) "_runs") tNil)) σ H R := by
  refine ⟨_, h1, _, _, rfl, rfl, _, rfl, ?_⟩
  by_cases hm : m > 0
  · rw [decide_eq_true hm]
    rw [if_pos hm] at h
    exact iteT ⟨_, h0, a, CW, da, _, _, rfl, ha, cl, nR, hf, h pa H (Same.refl H) hl⟩
  · rw [decide_eq_false hm]
    rw [if_neg hm] at h
    exact iteF ⟨_, h0, a, CW, da, _, _, rfl, ha, cl, nR, hf, pa, l, rfl, hl, ll, fun p H' s hp => h p H' s hp⟩
theorem ok_pow {CM CW fMI fWI f fU fB fI : Addr} {dMI dWI fd fdU fdB fdI : FuncData} (F : Fun K "power" "Word.power" sPow f fd) (T : Txt K mg) (G : Makes4 P w K mg base CM CW fMI fWI dMI dWI) (DU : Df K mg "undone_runs" sUndo ["runs"] fU fdU)
    (DB : Df K mg "check_between" sBetween ["value", "least", "most"] fB fdB) (DI : Df K mg "is_integer" sInt ["value"] fI fdI) : FnOk P w K mg base CX0 6 f fd ["self", "number"] (spPow K CW) := by
  have GU := ok_undone (P := P) (w := w) (base := base) DU.F T
  have GB := ok_between (P := P) (w := w) (base := base) DB.F T DI
  refine F.ok scPow (fun vs H Q E h => ?_) (fun cdv A outer s H vs Q E hr h => ?_)
  · obtain ⟨a, sg, l, m, rfl, _⟩ := h
    rfl
  · obtain ⟨a, sg, l, m, rfl, hsg, ⟨da, pa, ha, hl⟩, ll, hm, lr, q⟩ := h
    have r1 : Room 1 _ := hr.mono (by decide)
    have r2 : Room 2 _ := hr.mono (by decide)
    obtain ⟨t5, g5⟩ := T.mPow
    refine ⟨_, pss_cons (ps_expr (pe_call GB r2 (by rfl) DB.m DB.F.kp DB.b .nil pass0 (pa_cons (pv 1) (pa_cons (pe_un un_neg (pe_glob (v := .int 400) (by rfl) g5 ⟨_, rfl⟩)) (pa_cons (pe_glob (v := .int 400) (by rfl) g5 ⟨_, rfl⟩) pa_nil)))))
      (pss_cons (ps_set (i := 2) scPow.nd rfl (Or.inl rfl) (pe_ifExp (pt_cmpR op_gt (pv 1) pe_int (nomark _)) (pe_fld (pv 0) rfl) (pe_call GU r1 (by rfl) DU.m DU.F.kp DU.b .nil pass0 (pa_cons (pe_fld (pv 0) rfl) pa_nil))))
      (pss_one (ps_ret (pe_make G.mW G.gWI hr (by rfl) G.W.gW G.bWI .nil pass0 (pa_cons (pe_fld (pv 0) rfl) (pa_cons (pe_make G.mM G.gMI r2 (by rfl) G.W.gM G.bMI .nil pass0
        (pa_cons (pe_op op_repRow (pv 2) (pe_callB call_abs (by rfl) T.abs (by decide +kernel) (pa_cons (pv 1) pa_nil))) pa_nil)) pa_nil)))))), ?_⟩
    refine ⟨_, rfl, _, rfl, m, -400, 400, rfl, by omega, by omega, by omega, ?_⟩
    refine read_once (l := l) (m := m) rfl rfl ha hl (by omega) G.W.clW G.W.nR rfl fun b H1 s1 hb => ?_
    have bl : (if m > 0 then l else undo l).length ≤ 200 := by split <;> first | exact ll | (rw [undo_len]; exact ll)
    unfold powL at lr q
    generalize (if m > 0 then l else undo l) = w1 at hb q lr bl
    refine ⟨_, rfl, a, CW, da, _, _, rfl, s1 _ _ ha, G.W.clW, G.W.nL, rfl, ?_⟩
    refine ⟨_, rfl, _, rfl, _, rfl, ?_⟩
    have eabs : (if m < 0 then -m else m) = ((m.natAbs : Nat) : Int) := by split <;> omega
    rw [eabs]
    refine ⟨b, w1, _, rfl, rfl, hb, by omega, by omega, by omega, fun p2 H2 s2 h2 => ?_⟩
    rw [Int.natAbs_natCast] at h2
    have hle := timesL_len w1 m.natAbs
    have hmul : m.natAbs * w1.length ≤ 400 * 200 := Nat.mul_le_mul hm bl
    exact made_word G hsg h2 (by omega) lr fun x H' s h => q x H' ((s1.trans s2).trans s) h
end
end K4

set_option Elab.async false
set_option linter.all false
set_option maxRecDepth 100000
set_option maxHeartbeats 3200000
namespace K4
open PySem L2 Tx Tg Tm
abbrev cdef (i : Nat) : Stmt := wdef i
abbrev sOf : Stmt := wdef 1
theorem lc_text {x : Str} {g : TG} {tt : TT} {te : TE} {vs : List Nat} {σ : L2.St} {H1 : Hp} {D : Addr} {Qd : Hp → Prop} (Pv : Nat → Hp → Prop) (h0 : Pv 0 (upd H1 D (.lst [])))
    (hs : ∀ i c H, (cds x)[i]? = some c → Pv i H → g (.str (one c)) (wipe σ vs) H fun σ2 H2 => wipe σ2 vs = wipe σ vs ∧ tt σ2 H2 fun b H3 =>
      if b = true then te σ2 H3 fun y H4 => ∃ acc, H4 D = some (.lst acc) ∧ acc.length < sizeLine ∧ Pv (i + 1) (upd H4 D (.lst (acc ++ [y]))) else Pv (i + 1) H3) (hd : ∀ H, Pv (cds x).length H → Qd H) :
    ∃ W : Nat → Nat → Hp → Prop, (∃ m, W 0 m (upd H1 D (.lst []))) ∧ ∀ i m H, W i m H →
      ((Its x).stop i H ∧ Qd H) ∨ ((Its x).go i H ∧ ∃ Nx : Hp → Prop, (∀ H', Nx H' → ∃ m', m' < m ∧ W (i + 1) m' H') ∧ ∀ v H', (Its x).yld i H v H' → g v (wipe σ vs) H' fun σ2 H2 => wipe σ2 vs = wipe σ vs ∧ tt σ2 H2 fun b H3 =>
        if b = true then te σ2 H3 fun y H4 => ∃ acc, H4 D = some (.lst acc) ∧ acc.length < sizeLine ∧ Nx (upd H4 D (.lst (acc ++ [y]))) else Nx H3) := by
  have hz : x.cps.size = (cds x).length := (Array.length_toList).symm
  refine ⟨fun i m H => m = (cds x).length - i ∧ i ≤ (cds x).length ∧ Pv i H, ⟨(cds x).length, by simp, Nat.zero_le _, h0⟩, ?_⟩
  rintro i m H ⟨rfl, hi, p⟩
  by_cases hlt : i < (cds x).length
  · refine .inr ⟨by show i < x.cps.size; omega, Pv (i + 1), fun H' p' => ⟨(cds x).length - (i + 1), by omega, rfl, hlt, p'⟩, ?_⟩
    rintro v H' ⟨e, c, hc, e2⟩
    subst e
    subst e2
    exact hs i c _ (by rw [Array.getElem?_toList]; exact hc) p
  · have e : i = (cds x).length := by omega
    subst e
    exact .inl ⟨by show x.cps.size ≤ _; omega, hd H p⟩
/-- cls(..), cls a variable -/
def tMakeV (i : Nat) (C : Addr) (sp : Sp) (dvs : List V) (E : XK) (t : TA) : TE := fun σ H Q => σ[i]? = some (some (.ref C)) ∧ tMake C sp dvs E t σ H Q
theorem pe_makeV {X : Cx} {CX : CXT} {k i : Nat} {f C : Addr} {fd : FuncData} {ps : List Str} {sp : Sp} {E : XK} {x : Str} {p pos : Pos} {e : Expr} {es : List Expr} {t : TA} {dvs : List V} {ds : List Value} (hv : PE X (.Name x p) (tVar i)) (M : Mk X.K C f)
    (F : FnOk X.prog X.w X.K X.mg X.base CX k f fd ps sp) (hr : Room (k + 1) X.A) (hb : Binds X.K fd ps ds) (hd : Vals dvs ds) (hx : Passes CX X E)
    (ha : PA X (e :: es) t) (he : starEach (e :: es) X.env = (false, eval e X.env) :: starEach es X.env := by rfl) (hpl : (backTo pos (starEach es X.env)).any (·.1) = false := by rfl) :
    PE X (.Call (.Name x p) (e :: es) [] pos) (tMakeV i C sp dvs E t) := by
  refine ⟨fun pins s σ H Q I h => ?_⟩
  obtain ⟨h0, h⟩ := h
  refine wpAny_Call_Name_kw (thn (hv.run pins s σ H (fun v H' => v = .ref C ∧ H' = H) I ⟨_, h0, rfl, rfl⟩) fun u s1 ⟨v, H1, I1, rv, e1, e2⟩ => ?_)
  subst e1 e2
  cases rv
  refine PySem.W.callWith_K (h₀ := X.base) I1.ok.mod.kin M.kp (thn (ha.run pos pins s1 σ _ _ I1 h) fun us s1 ⟨vs, H1, I1, r, q⟩ => ⟨I1.kIn, ?_⟩) he hpl
  exact run_make M F hr hb hd hx I1 r q
section
variable {P : Program} {w : World} {K : PySem.W.Frag} {mg : Str → Option Value} {base : Heap}
def LstRow (H : Hp) (a : Addr) (l : Row) : Prop := ∃ ys, H a = some (.lst ys) ∧ PairsAt H ys l
def spJoinL (K : PySem.W.Frag) : Sp := fun vs H Q _ => ∃ (a : Addr) (l : Row), vs = [.ref a] ∧ LstRow H a l ∧ l.length ≤ 1000000 ∧ ∀ p H' ys, H p = none → Same H H' → H' p = some (.tup ys) → PairsAt H' ys (rowOf l) → Q (.ref p) H'
theorem ok_joinL {f : Addr} {fd : FuncData} (F : Fun K "joined_runs" "joined_runs" sJoin f fd) (T : Txt K mg) : FnOk P w K mg base CX0 1 f fd ["pairs"] (spJoinL K) := by
  refine F.ok scJoin (fun vs H Q E h => ?_) (fun cdv A outer s H vs Q E hr h => ?_)
  · obtain ⟨a, l, rfl, _⟩ := h
    rfl
  · obtain ⟨a, l, rfl, ⟨ys0, ha, hp0⟩, hl, q⟩ := h
    refine ⟨_, pss_cons (ps_set (i := 1) scJoin.nd rfl (Or.inl rfl) (pe_lst pa_nil))
      (pss_cons (ps_for PassesOwn.never rfl (pi_list (pv 0)) (pg_tup rfl (pgs_cons (pg_name (i := 2) scJoin.nd rfl (Or.inl rfl)) (pgs_cons (pg_name (i := 3) scJoin.nd rfl (Or.inl rfl)) pgs_nil)))
        (pss_cons (ps_set (i := 4) scJoin.nd rfl (Or.inl rfl) (pv 3))
        (pss_cons (ps_if (PW.pt (pw_and (pt_truth (pv 1) (by intro _; rfl)) (pw_and1 (pt_cmpR op_eq (pe_ix ix_tup (pe_ix ix_list (pv 1) (pe_un un_neg pe_int) (fun _ _ => rfl)) pe_int (fun _ _ => rfl)) (pv 2) (nomark _)))))
          (pss_one (ps_set (i := 4) scJoin.nd rfl (Or.inl rfl) (pe_op op_add (pv 3) (pe_ix ix_tup (pe_bm0 PySem.F.plainAttrs_list PySem.F.slot_list_pop PySem.F.type_list_pop mt_pop (pv 1)) pe_int (fun _ _ => rfl))))) pss_nil)
        (pss_one (ps_if (pt_cmpR op_ne (pv 4) pe_int (nomark _)) (pss_one (ps_expr (pe_bm PySem.F.plainAttrs_list PySem.F.slot_list_append PySem.F.type_list_append mt_append (pv 1) (pa_cons (pe_tup (pa_cons (pv 2) (pa_cons (pv 4) pa_nil))) pa_nil)))) pss_nil)))))
      (pss_one (ps_ret (pe_callTy call_tuple_of (by rfl) T.tuple (by decide +kernel) (pa_cons (pv 1) pa_nil))))), ?_⟩
    refine ⟨by decide, fun p np => ?_⟩
    have s0 : Same H (upd H p (.lst [])) := same_upd np
    have sT : ∀ {H'}, Same H H' → SqL K H' a ys0 := fun s => SqL.of (s _ _ ha)
    have hlen : ys0.length = l.length := hp0.length
    refine ⟨_, rfl, a, rfl, ⟨_, sT s0⟩, ?_⟩
    refine for_list (xs := ys0) (fun i σ H1 => ∃ (t2 t3 t4 : Option V) (zs : List V), σ = [some (.ref a), some (.ref p), t2, t3, t4] ∧ Same H H1 ∧ H1 p = some (.lst zs.reverse) ∧ PairsAt H1 zs (Wm.joint [] (l.take i)))
      ⟨none, none, none, [], rfl, s0, upd_same, .nil⟩ (fun i σ H1 _ z => by obtain ⟨_, _, _, _, _, s, _⟩ := z; exact sT s) ?_ ?_
    · rintro i x σ H1 hx ⟨t2, t3, t4, zs, rfl, s1, e1, hz⟩
      have hi := (List.getElem?_eq_some_iff.mp hx).1
      have hi' : i < l.length := by omega
      obtain ⟨t, rfl, et⟩ : PairAt H x l[i] := hp0.zip (x, l[i]) (List.mem_of_getElem? (i := i) (by rw [List.getElem?_zip_eq_some]; exact ⟨hx, List.getElem?_eq_getElem hi'⟩))
      rw [joint_take (List.getElem?_eq_getElem hi')]
      have hred : Wm.Red (Wm.joint [] (l.take i)) := Wm.red_joint (r := ([] : Row)) trivial
      have hjl : (Wm.joint [] (l.take i)).length ≤ i := by
        have := joint_len (l.take i) []
        rw [List.length_take, List.length_nil] at this
        omega
      have hzl := hz.length
      generalize l[i] = pr at et ⊢
      generalize Wm.joint [] (l.take i) = acc at hz hred hjl hzl ⊢
      refine ⟨t, _, rfl, SqT.of (s1 _ _ et), rfl, _, _, rfl, _, _, rfl, rfl, ?_⟩
      refine ⟨_, rfl, ?_⟩
      have hres : ∀ {m : Int} {c r : Row}, (if m = 0 then c else (pr.1, m) :: c) = r → (if m = 0 then c else (pr.1, m) :: c) = r := fun h => h
      cases hz with
      | nil =>
        refine ⟨_, rfl, false, .inl ⟨_, SqL.of e1, rfl⟩, iteF ?_⟩
        exact join_tail (acc := []) s1 np e1 .nil (Nat.zero_le _) rfl fun H3 zs' a1 a2 a3 => ⟨_, _, _, zs', rfl, a1, a2, a3⟩
      | @cons z c zs' acc' hzc hz' =>
        have hb : (z :: zs').reverse = zs'.reverse ++ [z] := List.reverse_cons ..
        obtain ⟨tz, rfl, etz⟩ := hzc
        have hne : (!((V.ref tz :: zs').reverse).isEmpty) = true := by rw [hb]; simp
        refine ⟨_, rfl, true, .inl ⟨_, SqL.of e1, hne.symm⟩, iteT ?_⟩
        refine ⟨_, rfl, _, rfl, p, _, _, .ref tz, rfl, rfl, SqL.of e1, by rw [hb]; exact atI_last _ _, tz, _, _, .str c.1, rfl, rfl, SqT.of etz, rfl, _, rfl, rfl, _, rfl, ?_⟩
        have hs : decide (V.str c.1 = V.str pr.1) = decide (c.1 = pr.1) := decide_eq_decide.mpr ⟨fun e => by injection e, fun e => by rw [e]⟩
        rw [hs]
        have hcl : acc'.length ≤ 1000000 := by
          rw [List.length_cons] at hjl
          omega
        by_cases hc : c.1 = pr.1
        · rw [decide_eq_true hc]
          refine iteT ?_
          refine ⟨_, rfl, _, rfl, .inl ⟨rfl, _, SqL.of e1⟩, p, _, .ref tz, rfl, rfl, e1, ?_, ?_⟩
          · rw [hb, List.length_append, List.length_singleton, Nat.add_sub_cancel, List.getElem?_append_right (Nat.le_refl _), Nat.sub_self]
            rfl
          have hd : ((V.ref tz :: zs').reverse).dropLast = zs'.reverse := by rw [hb, List.dropLast_concat]
          rw [hd]
          have ntp : tz ≠ p := fun e => by
            rw [e, e1] at etz
            cases etz
          refine ⟨tz, _, _, .int c.2, rfl, rfl, SqT.of (by rw [upd_ne ntp]; exact etz), rfl, _, _, rfl, rfl, ?_⟩
          refine join_tail (acc := acc') (same_put s1 np) np upd_same (PairsAt.put e1 hz') (by omega) ?_ fun H3 zs'' a1 a2 a3 => ⟨_, _, _, zs'', rfl, a1, a2, a3⟩
          show _ = (if pr.2 = 0 then c :: acc' else if c.1 = pr.1 then (if c.2 + pr.2 = 0 then acc' else (c.1, c.2 + pr.2) :: acc') else pr :: c :: acc')
          have hc2 : c.2 ≠ 0 := hred.head
          have ea : pr.2 + c.2 = c.2 + pr.2 := Int.add_comm _ _
          rw [ea]
          by_cases h0 : pr.2 = 0
          · rw [if_pos h0, h0, Int.add_zero, if_neg hc2, ← hc]
          · rw [if_neg h0, if_pos hc, hc]
        · rw [decide_eq_false hc]
          refine iteF ?_
          refine join_tail (acc := c :: acc') s1 np e1 (.cons ⟨tz, rfl, etz⟩ hz') (by rw [List.length_cons]; omega) ?_ fun H3 zs'' a1 a2 a3 => ⟨_, _, _, zs'', rfl, a1, a2, a3⟩
          show _ = (if pr.2 = 0 then c :: acc' else if c.1 = pr.1 then _ else pr :: c :: acc')
          rw [if_neg hc]
    · rintro σ H1 ⟨t2, t3, t4, zs, rfl, s1, e1, hz⟩
      have et : l.take ys0.length = l := List.take_of_length_le (by omega)
      rw [et] at hz
      refine ⟨_, rfl, p, _, rfl, .inl ⟨SqL.of e1, fun pl npl => ?_⟩⟩
      exact q pl _ _ (free_none s1 npl) (s1.trans (same_upd npl)) upd_same (PairsAt.same (same_upd npl) (each_rev hz))
theorem has_ab {z : Str} (h : z = "a" ∨ z = "b") : has (("ab" : Str) ++ Txt.upper "ab") 4000 (.str z) = true := by
  rcases h with rfl | rfl <;> decide +kernel
theorem fine_ab {z : Str} (h : z = "a" ∨ z = "b") : Fine z := by
  rcases h with rfl | rfl <;> exact ⟨by decide +kernel, by decide +kernel, by decide +kernel⟩
def spSg : Sp := fun vs H Q _ => ∃ z : Str, vs = [.str "ab", .str z] ∧ (z = "a" ∨ z = "b") ∧ ∀ H', Same H H' → Q (.bl true) H'
theorem scSigned : FnScope ["letters", "value"] ["letters", "value"] (defScope sSigned) := ⟨rfl, rfl, rfl, by decide +kernel, rfl, by decide +kernel, by decide +kernel⟩
theorem ok_signed {f fH fL fC : Addr} {fd fdH fdL fdC : FuncData} (F : Fun K "is_signed" "is_signed" sSigned f fd) (T : Txt K mg) (DH : Df K mg "has_only" sHas ["value", "signs", "most"] fH fdH)
    (DL : Df K mg "is_letters" sLetters ["value"] fL fdL) (DC : Df K mg "check_letters" sCheck ["value"] fC fdC) : FnOk P w K mg base CX0 4 f fd ["letters", "value"] spSg := by
  have G := ok_passL (P := P) (w := w) (base := base) DC.F T DH DL
  have GH := ok_has (P := P) (w := w) (base := base) DH.F T
  refine F.ok scSigned (fun vs H Q E h => ?_) (fun cdv A outer s H vs Q E hr h => ?_)
  · obtain ⟨z, rfl, _⟩ := h
    rfl
  · obtain ⟨z, rfl, hz, q⟩ := h
    obtain ⟨tn, hn⟩ := T.mText
    refine ⟨_, pss_cons (ps_expr (pe_call G hr (by rfl) DC.m DC.F.kp DC.b .nil pass0 (pa_cons (pv 0) pa_nil)))
      (pss_one (ps_ret (pe_call GH (hr.mono (by decide)) (by rfl) DH.m DH.F.kp DH.b .nil pass0 (pa_cons (pv 1) (pa_cons
        (pe_op op_add_str (pv 0) (pe_bm0 PySem.F.plainAttrs_str PySem.F.slot_str_upper PySem.F.type_str_upper mt_upper (pv 0)))
        (pa_cons (pe_glob (v := .int 4000) rfl hn ⟨_, rfl⟩) pa_nil)))))), ?_⟩
    refine ⟨_, rfl, "ab", rfl, .inl rfl, fun H' s' => ?_⟩
    refine ⟨_, rfl, _, rfl, _, rfl, rfl, "ab", rfl, rfl, by decide +kernel, "ab", Txt.upper "ab", rfl, rfl, by decide +kernel, .str z, .str z, _, 4000, rfl, .str z, fine_ab hz, ?_⟩
    rw [has_ab hz]
    exact q H' s'
def spCSg : Sp := fun vs H Q _ => ∃ z : Str, vs = [.str "ab", .str z] ∧ (z = "a" ∨ z = "b") ∧ ∀ H', Same H H' → Q .non H'
theorem scCSg : FnScope ["letters", "value"] ["letters", "value"] (defScope sCheckSigned) := ⟨rfl, rfl, rfl, by decide +kernel, rfl, by decide +kernel, by decide +kernel⟩
theorem ok_csigned {f fH fL fC fS : Addr} {fd fdH fdL fdC fdS : FuncData} (F : Fun K "check_signed" "check_signed" sCheckSigned f fd) (T : Txt K mg) (DH : Df K mg "has_only" sHas ["value", "signs", "most"] fH fdH)
    (DL : Df K mg "is_letters" sLetters ["value"] fL fdL) (DC : Df K mg "check_letters" sCheck ["value"] fC fdC) (DS : Df K mg "is_signed" sSigned ["letters", "value"] fS fdS) : FnOk P w K mg base CX0 5 f fd ["letters", "value"] spCSg := by
  have G := ok_signed (P := P) (w := w) (base := base) DS.F T DH DL DC
  refine F.ok scCSg (fun vs H Q E h => ?_) (fun cdv A outer s H vs Q E hr h => ?_)
  · obtain ⟨z, rfl, _⟩ := h
    rfl
  · obtain ⟨z, rfl, hz, q⟩ := h
    refine ⟨_, pss_one (ps_if (pt_not (pt_val (pe_call G hr (by rfl) DS.m DS.F.kp DS.b .nil pass0 (pa_cons (pv 0) (pa_cons (pv 1) pa_nil))))) (pss_one ps_never) pss_nil), ?_⟩
    exact ⟨_, rfl, _, rfl, z, rfl, hz, fun H' s' => ⟨_, rfl, iteF (q H' s')⟩⟩
def spRoS (K : PySem.W.Frag) : Sp := fun vs H Q _ => ∃ z : Str, vs = [.str z] ∧ (z = "a" ∨ z = "b") ∧ ∀ p H', Same H H' → TupRow K H' p [(z, 1)] → Q (.ref p) H'
theorem scRoS : FnScope ["signs", "sign"] ["signs"] (defScope sOfSigns) := ⟨rfl, rfl, rfl, by decide +kernel, rfl, by decide +kernel, by decide +kernel⟩
theorem ok_ros {f fJ : Addr} {fd fdJ : FuncData} (F : Fun K "runs_of_signs" "runs_of_signs" sOfSigns f fd) (T : Txt K mg) (DJ : Df K mg "joined_runs" sJoin ["pairs"] fJ fdJ) : FnOk P w K mg base CX0 2 f fd ["signs"] (spRoS K) := by
  have G := ok_joinL (P := P) (w := w) (base := base) DJ.F T
  refine F.ok scRoS (fun vs H Q E h => ?_) (fun cdv A outer s H vs Q E hr h => ?_)
  · obtain ⟨z, rfl, _⟩ := h
    rfl
  · obtain ⟨z, rfl, hz, q⟩ := h
    refine ⟨_, pss_one (ps_ret (pe_call G hr (by rfl) DJ.m DJ.F.kp DJ.b .nil pass0 (pa_cons (pe_lc (own := [("sign", 1)]) (g := gName 1) (tt := tYes) rfl scRoS.nd (pi_str (pv 0))
      (blkOk_by (own := [("sign", 1)]) (N := ["signs", "sign"]) (sc := defScope sOfSigns) (by decide +kernel))
      (fun _ _ _ _ _ => pg_name (i := 1) scRoS.nd rfl (Or.inl rfl)) (fun _ _ _ _ _ => pts_nil)
      (fun _ _ _ _ _ => pe_tup (pa_cons (pe_lower (pv 1)) (pa_cons (pe_ifExp (pt_val (pe_m0 PySem.F.slot_str_islower PySem.F.type_str_islower mt_islower (pv 1))) pe_int (pe_un un_neg pe_int)) pa_nil)))) pa_nil))), ?_⟩
    refine ⟨_, rfl, z, rfl, fun D hD => ?_⟩
    have facts : ∀ (i c : Nat), (cds z)[i]? = some c → i = 0 ∧ one c = z ∧ Txt.lower (one c) = z ∧ Txt.islower (one c) = true := by
      intro i c hc
      have e1 : cds z = [97] ∨ cds z = [98] := hz.imp (fun e => by rw [e]; decide +kernel) (fun e => by rw [e]; decide +kernel)
      rcases hz with rfl | rfl
      · have e1 : cds ("a" : Str) = [97] := by decide +kernel
        rw [e1] at hc
        cases i with
        | zero =>
          obtain rfl : 97 = c := Option.some.inj hc
          exact ⟨rfl, by decide +kernel, by decide +kernel, by decide +kernel⟩
        | succ i => cases hc
      · have e1 : cds ("b" : Str) = [98] := by decide +kernel
        rw [e1] at hc
        cases i with
        | zero =>
          obtain rfl : 98 = c := Option.some.inj hc
          exact ⟨rfl, by decide +kernel, by decide +kernel, by decide +kernel⟩
        | succ i => cases hc
    have len1 : (cds z).length = 1 := by rcases hz with rfl | rfl <;> decide +kernel
    refine lc_text (fun i H3 => Same H H3 ∧ ∃ zs, H3 D = some (.lst zs) ∧ PairsAt H3 zs (([(z, (1 : Int))] : Row).take i)) ⟨same_upd hD, [], upd_same, .nil⟩ ?_ ?_
    · rintro i c H2 hc ⟨s2, zs, e2, hzs⟩
      obtain ⟨rfl, hcz, hlo, hil⟩ := facts i c hc
      refine ⟨rfl, iteT (B := False) ?_⟩
      refine ⟨_, rfl, ⟨_, rfl⟩, _, rfl, rfl, by show 1 ≤ 5592405; decide, _, rfl, ⟨_, rfl⟩, _, rfl, rfl, trivial, _, rfl, ?_⟩
      rw [hil]
      refine iteT ?_
      refine ⟨by show 2 ≤ sizeLine; decide, fun pt npt => ?_⟩
      rw [hlo]
      cases hzs
      have e4 := (same_upd (o := .tup [.str z, .int 1]) npt) _ _ e2
      have nPD : pt ≠ D := (ne_of_none e2 npt).symm
      refine ⟨[], e4, by decide, same_put (s2.trans (same_upd npt)) hD, [.ref pt], upd_same, ?_⟩
      exact .cons ⟨pt, rfl, by rw [upd_ne nPD, upd_same]⟩ .nil
    · rintro H2 ⟨s2, zs, e2, hzs⟩
      rw [len1] at hzs
      refine ⟨D, [(z, 1)], rfl, ⟨zs, e2, hzs⟩, by show 1 ≤ 1000000; decide, fun p H' ys _ s3 e3 h3 => ?_⟩
      exact q p H' (s2.trans s3) (.new e3 h3)
def spOf (K : PySem.W.Frag) (CW : Addr) : Sp := fun vs H Q _ => ∃ z : Str, vs = [.ref CW, .str "ab", .str z] ∧ (z = "a" ∨ z = "b") ∧ ∀ x H', Same H H' → WordAt K CW H' x "ab" [(z, 1)] → Q (.ref x) H'
theorem scOf : FnScope ["cls", "letters", "text"] ["cls", "letters", "text"] (defScope sOf) := ⟨rfl, rfl, rfl, by decide +kernel, rfl, by decide +kernel, by decide +kernel⟩
end
end K4

set_option Elab.async false
set_option linter.all false
set_option maxRecDepth 100000
set_option maxHeartbeats 3200000
namespace K4
open PySem L2 Tx Tg Tm
/-- Word(letters, row) -/
theorem row_word {P : Program} {w : World} {K : PySem.W.Frag} {mg : Str → Option Value} {base : Heap} {CM CW fMI fWI : Addr} {dMI dWI : FuncData} (G : Makes4 P w K mg base CM CW fMI fWI dMI dWI) {H : Hp} {sg : Str} {b : Addr} {l : Row} {B : Nat} {Q : VK} {E : XK} (hsg : Signs sg) (hb : TupRow K H b l)
    (hru : Ru sg B l) (hB : B < 10 ^ 200) (hl : l.length ≤ 200) (q : ∀ x H', Same H H' → WordAt K CW H' x sg (rowOf l) → Q (.ref x) H') :
    ∀ x dx, H x = none → H dx = none → dx ≠ x → spWordInit K CM CW (.ref x :: ([V.str sg, V.ref b] ++ [])) (upd (upd H dx (.own x)) x (.ins CW dx [])) (fun v H3 => v = .non ∧ Q (.ref x) H3) E := by
  intro x dx nx ndx nxx
  have s3 : Same H (upd H dx (.own x)) := same_upd ndx
  have n3 : (upd H dx (.own x)) x = none := by rw [upd_ne nxx.symm]; exact nx
  have s4 : Same (upd H dx (.own x)) (upd (upd H dx (.own x)) x (.ins CW dx [])) := same_upd n3
  have ex : (upd (upd H dx (.own x)) x (.ins CW dx [])) x = some (.ins CW dx []) := upd_same
  have s24 := s3.trans s4
  generalize upd (upd H dx (.own x)) x (.ins CW dx []) = H4 at s24 ex ⊢
  have := rowOf_len l
  refine ⟨x, dx, sg, b, l, rfl, ex, hsg, .inr ⟨hb.same s24, B, hru, hB⟩, by omega, by omega, fun H' p bt e hp => ⟨rfl, q x H' (fun c o ec => ?_) ⟨dx, p, e, hp⟩⟩⟩
  exact bt _ _ (ne_of_none ec nx) (s24 _ _ ec)
theorem row_ab {z : Str} (h : z = "a" ∨ z = "b") : rowOf [(z, 1)] = [(z, 1)] ∧ Ru "ab" 1 [(z, 1)] := by
  rcases h with rfl | rfl
  · refine ⟨by decide +kernel, fun p hp => ?_⟩
    obtain rfl := List.mem_singleton.mp hp
    exact ⟨⟨97, by decide +kernel, by decide +kernel⟩, by decide⟩
  · refine ⟨by decide +kernel, fun p hp => ?_⟩
    obtain rfl := List.mem_singleton.mp hp
    exact ⟨⟨98, by decide +kernel, by decide +kernel⟩, by decide⟩
section
variable {P : Program} {w : World} {K : PySem.W.Frag} {mg : Str → Option Value} {base : Heap}
theorem ok_of {CM CW fMI fWI f fH fL fC fS fCS fJ fR : Addr} {dMI dWI fd fdH fdL fdC fdS fdCS fdJ fdR : FuncData} (F : Fun K "of" "Word.of" sOf f fd) (T : Txt K mg) (G : Makes4 P w K mg base CM CW fMI fWI dMI dWI) (DH : Df K mg "has_only" sHas ["value", "signs", "most"] fH fdH)
    (DL : Df K mg "is_letters" sLetters ["value"] fL fdL) (DC : Df K mg "check_letters" sCheck ["value"] fC fdC) (DS : Df K mg "is_signed" sSigned ["letters", "value"] fS fdS) (DCS : Df K mg "check_signed" sCheckSigned ["letters", "value"] fCS fdCS)
    (DJ : Df K mg "joined_runs" sJoin ["pairs"] fJ fdJ) (DR : Df K mg "runs_of_signs" sOfSigns ["signs"] fR fdR) : FnOk P w K mg base CX0 6 f fd ["cls", "letters", "text"] (spOf K CW) := by
  have GS := ok_csigned (P := P) (w := w) (base := base) DCS.F T DH DL DC DS
  have GR := ok_ros (P := P) (w := w) (base := base) DR.F T DJ
  refine F.ok scOf (fun vs H Q E h => ?_) (fun cdv A outer s H vs Q E hr h => ?_)
  · obtain ⟨z, rfl, _⟩ := h
    rfl
  · obtain ⟨z, rfl, hz, q⟩ := h
    have r2 : Room 2 _ := hr.mono (by decide)
    refine ⟨_, pss_cons (ps_expr (pe_call GS hr (by rfl) DCS.m DCS.F.kp DCS.b .nil pass0 (pa_cons (pv 1) (pa_cons (pv 2) pa_nil))))
      (pss_one (ps_ret (pe_makeV (i := 0) (pv 0) G.mW G.gWI hr G.bWI .nil pass0 (pa_cons (pv 1) (pa_cons (pe_call GR r2 (by rfl) DR.m DR.F.kp DR.b .nil pass0 (pa_cons (pv 2) pa_nil)) pa_nil))))), ?_⟩
    refine ⟨_, rfl, _, rfl, z, rfl, hz, fun H1 s1 => ⟨rfl, _, rfl, _, rfl, z, rfl, hz, fun p H2 s2 h2 => ?_⟩⟩
    have hw := row_ab hz
    refine row_word G (.inl rfl) h2 hw.2 (by decide +kernel) (by show 1 ≤ 200; decide) fun x H' s h => ?_
    rw [hw.1] at h
    exact q x H' ((s1.trans s2).trans s) h
end
end K4

set_option Elab.async false
set_option linter.all false
set_option maxRecDepth 100000
set_option maxHeartbeats 3200000
namespace K4
open PySem L2 Tx Tg Tm
abbrev sRuns : Stmt := wdef 3
abbrev sSize : Stmt := wdef 4
abbrev sShort : Stmt := wdef 15
/-! ### a text so many times -/
theorem mul_len {z : Str} {n : Int} (h : 1 ≤ n) : (Txt.mul z n).length = z.length * n.toNat := by
  unfold Txt.mul
  rw [if_neg (by omega)]
  split
  · rename_i q
    rcases Bool.or_eq_true _ _ ▸ q with q | q
    · have : n = 1 := by simpa using q
      subst this
      show _ = z.length * 1
      rw [Nat.mul_one]
    · have : z.length = 0 := by simpa using q
      rw [this, Nat.zero_mul]
  · have all : ∀ (k : Nat) (acc : Array Nat), ((List.replicate k z.cps).foldl (· ++ ·) acc).size = acc.size + z.cps.size * k := by
      intro k
      induction k with
      | zero => intro acc; simp
      | succ k ih =>
        intro acc
        rw [List.replicate_succ, List.foldl_cons, ih, Array.size_append, Nat.mul_succ]
        omega
    have := all n.toNat #[]
    have e0 : (#[] : Array Nat).size = 0 := rfl
    rw [e0, Nat.zero_add] at this
    exact this
theorem mulT_ok {z : Str} {n : Int} (hz : z.length ≤ 100) (h1 : 1 ≤ n) (h2 : n ≤ 100) : MulOk z n := by
  refine ⟨?_, fun _ _ => ?_, fun _ _ => ?_⟩
  · rw [decide_eq_false (by omega), decide_eq_false (by omega)]
    rfl
  · have : (100 : Int) ≤ (2 ^ 63 - 1) / n := Int.le_ediv_of_mul_le (by omega) (by omega)
    omega
  · have e : PySem.Builtin.Str.tooLong (z.length * n.toNat) = decide (z.length * n.toNat > sizeLine) := rfl
    rw [e]
    refine decide_eq_false ?_
    have := Nat.mul_le_mul hz (show n.toNat ≤ 100 by omega)
    rw [sizeLine_eq]
    omega
section
variable {X : Cx}
theorem op_mulT : OpR X (binaryOp .Mult) (fun x y H Q => ∃ (z : Str) (n : Int), x = .str z ∧ y = .int n ∧ z.length ≤ 100 ∧ 1 ≤ n ∧ n ≤ 100 ∧ Q (.str (Txt.mul z n)) H) := by
  intro pins s σ H x y v u Q I rx ry h
  obtain ⟨z, n, rfl, rfl, hz, h1, h2, q⟩ := h
  obtain ⟨t, rfl⟩ := rx
  obtain ⟨t', rfl⟩ := ry
  exact SB.mul (mulT_ok hz h1 h2) fun t2 k => ⟨.str (Txt.mul z n), H, I.tok _, ⟨t2, rfl⟩, q⟩
end
/-! ### less than each of its ends -/
def sgn (p : Str × Int) : Str := if p.2 > 0 then Txt.mul p.1 p.2 else Txt.mul (Txt.upper p.1) (-p.2)
/-- one letter each, exponents 1 and -1 -/
def Sm (l : Row) : Prop := ∀ p ∈ l, (p.1 = "a" ∨ p.1 = "b") ∧ (p.2 = 1 ∨ p.2 = -1)
theorem sgn_len {p : Str × Int} (h : (p.1 = "a" ∨ p.1 = "b") ∧ (p.2 = 1 ∨ p.2 = -1)) : (sgn p).length ≤ 1 := by
  obtain ⟨x, n⟩ := p
  obtain ⟨h1, h2⟩ := h
  simp only at h1 h2
  rcases h1 with rfl | rfl <;> rcases h2 with rfl | rfl <;> decide +kernel
section
variable {P : Program} {w : World} {K : PySem.W.Frag} {mg : Str → Option Value} {base : Heap}
def spRuns (K : PySem.W.Frag) (CW : Addr) : Sp := fun vs H Q _ => ∃ (a : Addr) (sg : Str) (l : Row), vs = [.ref a] ∧ WordAt K CW H a sg l ∧ ∀ p, TupRow K H p l → Q (.ref p) H
theorem scRuns : FnScope ["self"] ["self"] (defScope sRuns) := ⟨rfl, rfl, rfl, by decide +kernel, rfl, by decide +kernel, by decide +kernel⟩
theorem ok_runs {CM CW f : Addr} {fd : FuncData} (F : Fun K "runs" "Word.runs" sRuns f fd) (W : WF K mg CM CW) : FnOk P w K mg base CX0 1 f fd ["self"] (spRuns K CW) := by
  refine F.ok scRuns (fun vs H Q E h => ?_) (fun cdv A outer s H vs Q E hr h => ?_)
  · obtain ⟨a, sg, l, rfl, _⟩ := h
    rfl
  · obtain ⟨a, sg, l, rfl, ⟨da, pa, ha, hl⟩, q⟩ := h
    refine ⟨_, pss_one (ps_ret (pe_fld (pv 0) rfl)), ?_⟩
    exact ⟨_, rfl, a, CW, da, _, _, rfl, ha, W.clW, W.nR, rfl, q pa hl⟩
def spSize (K : PySem.W.Frag) (CW : Addr) : Sp := fun vs H Q _ => ∃ (a : Addr) (sg : Str) (l : Row), vs = [.ref a] ∧ WordAt K CW H a sg l ∧ Sm l ∧ l.length ≤ 200 ∧ ∀ H' (n : Int), Same H H' → n ≤ 200 → Q (.int n) H'
theorem scSize : FnScope ["self", "_", "exponent"] ["self"] (defScope sSize) := ⟨rfl, rfl, rfl, by decide +kernel, rfl, by decide +kernel, by decide +kernel⟩
theorem sum_small : ∀ l : List Int, (∀ n ∈ l, n ≤ 1) → l.sum ≤ l.length
  | [], _ => Int.le_refl 0
  | n :: l, h => by
    have h1 := h n List.mem_cons_self
    have h2 := sum_small l fun m hm => h m (List.mem_cons_of_mem _ hm)
    rw [List.sum_cons, List.length_cons]
    omega
def absOf (n : Int) : Int := if n < 0 then -n else n
theorem ok_size {CM CW f : Addr} {fd : FuncData} (F : Fun K "size" "Word.size" sSize f fd) (T : Txt K mg) (W : WF K mg CM CW) : FnOk P w K mg base CX0 1 f fd ["self"] (spSize K CW) := by
  refine F.ok scSize (fun vs H Q E h => ?_) (fun cdv A outer s H vs Q E hr h => ?_)
  · obtain ⟨a, sg, l, rfl, _⟩ := h
    rfl
  · obtain ⟨a, sg, l, rfl, ⟨da, pa, ha, ys, hy, hp⟩, hs, ll, q⟩ := h
    refine ⟨_, pss_one (ps_ret (pe_callB (cr_sum rfl) (by rfl) T.sum (by decide +kernel) (pa_cons (pe_lc (own := [("_", 1), ("exponent", 2)]) (g := gTup K 2 (gCons (gName 1) (gCons (gName 2) gNil))) (tt := tYes) rfl scSize.nd (pi_tup (pe_fld (pv 0) rfl))
      (blkOk_by (own := [("_", 1), ("exponent", 2)]) (N := ["self", "_", "exponent"]) (sc := defScope sSize) (by decide +kernel))
      (fun _ _ _ _ _ => pg_tup rfl (pgs_cons (pg_name (i := 1) scSize.nd rfl (Or.inl rfl)) (pgs_cons (pg_name (i := 2) scSize.nd rfl (Or.inl rfl)) pgs_nil))) (fun _ _ _ _ _ => pts_nil)
      (fun _ _ _ _ _ => pe_callB call_abs (by rfl) T.abs (by decide +kernel) (pa_cons (pv 2) pa_nil))) pa_nil))), ?_⟩
    refine ⟨_, rfl, a, CW, da, _, _, rfl, ha, W.clW, W.nR, rfl, pa, rfl, ⟨_, hy⟩, fun D hD => ?_⟩
    have hlen : ys.length = l.length := hp.length
    have sT : ∀ {H'}, Same H H' → SqT K H' pa ys := fun s => K4.SqT.of_row s hy
    refine lc_tup (xs := ys) (fun i H3 => Same H H3 ∧ H3 D = some (.lst (((l.take i).map fun p => absOf p.2).map V.int))) ⟨same_upd hD, upd_same⟩ (fun i H2 _ z => sT z.1) ?_ ?_
    · rintro i x H2 hx ⟨s2, e2⟩
      have hi := (List.getElem?_eq_some_iff.mp hx).1
      have hi' : i < l.length := by omega
      obtain ⟨t, rfl, et⟩ : PairAt H x l[i] := hp.zip (x, l[i]) (List.mem_of_getElem? (i := i) (by rw [List.getElem?_zip_eq_some]; exact ⟨hx, List.getElem?_eq_getElem hi'⟩))
      refine ⟨t, _, rfl, SqT.of (s2 _ _ et), rfl, _, _, rfl, _, _, rfl, rfl, rfl, iteT (B := False) ?_⟩
      refine ⟨_, rfl, _, rfl, _, e2, ?_, same_put s2 hD, ?_⟩
      · rw [List.length_map, List.length_map, List.length_take]
        exact Nat.lt_of_le_of_lt (show _ ≤ 200 by omega) (by decide)
      · rw [upd_same, List.take_add_one, List.getElem?_eq_getElem hi', List.map_append, List.map_append]
        rfl
    · rintro H2 ⟨s2, e2⟩
      rw [List.take_of_length_le (by omega)] at e2
      refine ⟨D, _, rfl, SqL.of e2, q H2 _ s2 ?_⟩
      have := sum_small (l.map fun p => absOf p.2) fun n hn => by
        obtain ⟨p, hp', rfl⟩ := List.mem_map.mp hn
        rcases (hs p hp').2 with e | e <;> rw [e] <;> decide
      rw [List.length_map] at this
      omega
def spSoR (K : PySem.W.Frag) : Sp := fun vs H Q _ => ∃ (a : Addr) (l : Row), vs = [.ref a] ∧ TupRow K H a l ∧ Sm l ∧ l.length ≤ 200 ∧ ∀ H', Same H H' → Q (.str (Txt.join "" (l.map sgn))) H'
theorem scSoR : FnScope ["runs", "letter", "exponent"] ["runs"] (defScope sSignsOf) := ⟨rfl, rfl, rfl, by decide +kernel, rfl, by decide +kernel, by decide +kernel⟩
theorem sum_lens : ∀ l : List Str, (∀ z ∈ l, z.length ≤ 1) → (l.map (·.length)).sum ≤ l.length
  | [], _ => Nat.le_refl 0
  | z :: l, h => by
    have h1 := h z List.mem_cons_self
    have h2 := sum_lens l fun m hm => h m (List.mem_cons_of_mem _ hm)
    rw [List.map_cons, List.sum_cons, List.length_cons]
    omega
theorem ok_sor {f : Addr} {fd : FuncData} (F : Fun K "signs_of_runs" "signs_of_runs" sSignsOf f fd) (T : Txt K mg) : FnOk P w K mg base CX0 1 f fd ["runs"] (spSoR K) := by
  refine F.ok scSoR (fun vs H Q E h => ?_) (fun cdv A outer s H vs Q E hr h => ?_)
  · obtain ⟨a, l, rfl, _⟩ := h
    rfl
  · obtain ⟨a, l, rfl, ⟨ys, hy, hp⟩, hs, ll, q⟩ := h
    refine ⟨_, pss_one (ps_ret (pe_join pe_str (pe_lc (own := [("letter", 1), ("exponent", 2)]) (g := gTup K 2 (gCons (gName 1) (gCons (gName 2) gNil))) (tt := tYes) rfl scSoR.nd (pi_tup (pv 0))
      (blkOk_by (own := [("letter", 1), ("exponent", 2)]) (N := ["runs", "letter", "exponent"]) (sc := defScope sSignsOf) (by decide +kernel))
      (fun _ _ _ _ _ => pg_tup rfl (pgs_cons (pg_name (i := 1) scSoR.nd rfl (Or.inl rfl)) (pgs_cons (pg_name (i := 2) scSoR.nd rfl (Or.inl rfl)) pgs_nil))) (fun _ _ _ _ _ => pts_nil)
      (fun _ _ _ _ _ => pe_ifExp (pt_cmpR op_gt (pv 2) pe_int (nomark _)) (pe_op op_mulT (pv 1) (pv 2)) (pe_op op_mulT (pe_upper (pv 1)) (pe_un un_neg (pv 2))))))), ?_⟩
    refine ⟨⟨_, rfl⟩, _, rfl, a, rfl, ⟨_, hy⟩, fun D hD => ?_⟩
    have hlen : ys.length = l.length := hp.length
    have sT : ∀ {H'}, Same H H' → SqT K H' a ys := fun s => K4.SqT.of_row s hy
    refine lc_tup (xs := ys) (fun i H3 => Same H H3 ∧ H3 D = some (.lst (((l.take i).map sgn).map V.str))) ⟨same_upd hD, upd_same⟩ (fun i H2 _ z => sT z.1) ?_ ?_
    · rintro i x H2 hx ⟨s2, e2⟩
      have hi := (List.getElem?_eq_some_iff.mp hx).1
      have hi' : i < l.length := by omega
      obtain ⟨t, rfl, et⟩ : PairAt H x l[i] := hp.zip (x, l[i]) (List.mem_of_getElem? (i := i) (by rw [List.getElem?_zip_eq_some]; exact ⟨hx, List.getElem?_eq_getElem hi'⟩))
      have hsm := hs l[i] (List.getElem_mem hi')
      have step : ∃ acc, H2 D = some (.lst acc) ∧ acc.length < sizeLine ∧ (Same H (upd H2 D (.lst (acc ++ [.str (sgn l[i])]))) ∧ (upd H2 D (.lst (acc ++ [.str (sgn l[i])]))) D = some (.lst (((l.take (i + 1)).map sgn).map V.str))) := by
        refine ⟨_, e2, ?_, same_put s2 hD, ?_⟩
        · rw [List.length_map, List.length_map, List.length_take]
          exact Nat.lt_of_le_of_lt (show _ ≤ 200 by omega) (by decide)
        · rw [upd_same, List.take_add_one, List.getElem?_eq_getElem hi', List.map_append, List.map_append]
          rfl
      have one1 : l[i].1.length = 1 := by rcases hsm.1 with e | e <;> rw [e] <;> decide +kernel
      have one2 : (Txt.upper l[i].1).length = 1 := by rcases hsm.1 with e | e <;> rw [e] <;> decide +kernel
      refine ⟨t, _, rfl, SqT.of (s2 _ _ et), rfl, _, _, rfl, _, _, rfl, rfl, rfl, iteT (B := False) ?_⟩
      refine ⟨_, rfl, _, _, rfl, rfl, _, rfl, ?_⟩
      have em : sgn l[i] = if l[i].2 > 0 then Txt.mul l[i].1 l[i].2 else Txt.mul (Txt.upper l[i].1) (-l[i].2) := rfl
      rw [em] at step
      by_cases hpos : l[i].2 > 0
      · rw [decide_eq_true hpos]
        rw [if_pos hpos] at step
        refine iteT ⟨_, rfl, _, rfl, _, _, rfl, rfl, by omega, by omega, by omega, step⟩
      · rw [decide_eq_false hpos]
        rw [if_neg hpos] at step
        refine iteF ⟨_, rfl, ⟨_, rfl⟩, _, rfl, rfl, by omega, _, rfl, _, rfl, _, _, rfl, rfl, by omega, by omega, by omega, step⟩
    · rintro H2 ⟨s2, e2⟩
      rw [List.take_of_length_le (by omega)] at e2
      refine ⟨"", D, _, rfl, rfl, .inl (SqL.of e2), ?_, q H2 s2⟩
      have := sum_lens (l.map sgn) fun z hz => by
        obtain ⟨p, hp', rfl⟩ := List.mem_map.mp hz
        exact sgn_len (hs p hp')
      rw [List.length_map] at this
      show _ + _ * 0 ≤ _
      omega
end
end K4

set_option Elab.async false
set_option linter.all false
set_option maxRecDepth 100000
set_option maxHeartbeats 3200000
namespace K4
open PySem L2 Tx Tg Tm
section
variable {P : Program} {w : World} {K : PySem.W.Frag} {mg : Str → Option Value} {base : Heap}
def spShort (K : PySem.W.Frag) (CW : Addr) : Sp := fun vs H Q _ => ∃ (a : Addr) (sg : Str) (l : Row), vs = [.ref a] ∧ WordAt K CW H a sg l ∧ Sm l ∧ l.length ≤ 200 ∧ ∀ H', Same H H' → Q (.str (Txt.join "" (l.map sgn))) H'
theorem scShort : FnScope ["self"] ["self"] (defScope sShort) := ⟨rfl, rfl, rfl, by decide +kernel, rfl, by decide +kernel, by decide +kernel⟩
theorem ok_short {CM CW f fM fS fZ pZ : Addr} {fd fdM fdS fdZ : FuncData} (F : Fun K "shortest" "Word.shortest" sShort f fd) (T : Txt K mg) (W : WF K mg CM CW) (DM : Df K mg "check_most" sMost ["many", "limit"] fM fdM) (DS : Df K mg "signs_of_runs" sSignsOf ["runs"] fS fdS)
    (GZ : FnOk P w K mg base CX0 1 fZ fdZ ["self"] (spSize K CW)) (pZ' : PropOf K CW "size" pZ fZ) (bZ : Binds K fdZ ["self"] []) : FnOk P w K mg base CX0 3 f fd ["self"] (spShort K CW) := by
  have GM := ok_most (P := P) (w := w) (base := base) DM.F T
  have GS := ok_sor (P := P) (w := w) (base := base) DS.F T
  refine F.ok scShort (fun vs H Q E h => ?_) (fun cdv A outer s H vs Q E hr h => ?_)
  · obtain ⟨a, sg, l, rfl, _⟩ := h
    rfl
  · obtain ⟨a, sg, l, rfl, ⟨da, pa, ha, hl⟩, hs, ll, q⟩ := h
    have r1 : Room 1 _ := hr.mono (by decide)
    obtain ⟨t4, g4⟩ := T.mText
    refine ⟨_, pss_cons (ps_expr (pe_call GM r1 (by rfl) DM.m DM.F.kp DM.b .nil pass0 (pa_cons (pe_prop (pv 0) W.clW pZ' GZ hr bZ .nil pass0 rfl) (pa_cons (pe_glob (v := .int 4000) (by rfl) g4 ⟨_, rfl⟩) pa_nil))))
      (pss_one (ps_ret (pe_call GS r1 (by rfl) DS.m DS.F.kp DS.b .nil pass0 (pa_cons (pe_fld (pv 0) rfl) pa_nil)))), ?_⟩
    refine ⟨_, rfl, a, da, _, rfl, ha, a, sg, l, rfl, ⟨da, pa, ha, hl⟩, hs, ll, fun H1 n s1 hn => ?_⟩
    refine ⟨n, 4000, rfl, by omega, ?_⟩
    refine ⟨_, rfl, a, CW, da, _, _, rfl, s1 _ _ ha, W.clW, W.nR, rfl, pa, l, rfl, hl.same s1, hs, ll, fun H2 s2 => q H2 (s1.trans s2)⟩
end
end K4

set_option Elab.async false
set_option linter.all false
set_option maxRecDepth 100000
set_option maxHeartbeats 3200000
namespace K4
open PySem L2 Tx Tg Tm
/-! ### rows as elements of the group -/
abbrev GW := Wm.G Str
def rowG (g : GW) : Row := g.1.reverse
theorem rowOf_row (g : GW) : rowOf (rowG g) = rowG g := by
  unfold rowOf rowG
  rw [Wm.joint_self g.2]
theorem rowOf_cat (g h : GW) : rowOf (rowG g ++ rowG h) = rowG (Wm.m g h) := by
  unfold rowOf rowG
  rw [Wm.joint_app, Wm.joint_self g.2]
  rfl
theorem undo_row (g : GW) : undo (rowG g) = rowG (Wm.i g) := by
  show (Wm.neg g.1.reverse).reverse = (Wm.neg g.1).reverse.reverse
  unfold Wm.neg
  rw [List.map_reverse]
theorem jointL_row (g h : GW) : jointL (rowG g) (rowG h) = rowG (Wm.m g h) := by
  unfold jointL rowG
  rw [List.reverse_reverse]
  rfl
theorem repL_row (g : GW) : ∀ n, repL (rowG g) n = rowG (Wm.np g n)
  | 0 => rfl
  | n + 1 => by
    show jointL (repL (rowG g) n) (rowG g) = rowG (Wm.m (Wm.np g n) g)
    rw [repL_row g n, jointL_row]
theorem np_front (g : GW) : ∀ n, Wm.np g (n + 1) = Wm.m g (Wm.np g n)
  | 0 => by
    show Wm.m Wm.one g = Wm.m g Wm.one
    rw [Wm.one_m, Wm.m_one]
  | n + 1 => by
    show Wm.m (Wm.np g (n + 1)) g = Wm.m g (Wm.m (Wm.np g n) g)
    rw [np_front g n, Wm.m_assoc]
theorem joint_times (g : GW) : ∀ (n : Nat) (r : GW), Wm.joint r.1 (timesL (rowG g) n) = (Wm.m r (Wm.np g n)).1
  | 0, r => by
    show r.1 = (Wm.m r Wm.one).1
    rw [Wm.m_one]
  | n + 1, r => by
    show Wm.joint r.1 (rowG g ++ timesL (rowG g) n) = _
    rw [Wm.joint_app]
    have := joint_times g n (Wm.m r g)
    rw [np_front, ← Wm.m_assoc, ← this]
    rfl
theorem powL_row (g : GW) (m : Int) : powL (rowG g) m = rowG (Wm.zp g m) := by
  unfold powL Wm.zp
  have h : ∀ (a : GW) n, rowOf (timesL (rowG a) n) = rowG (Wm.np a n) := fun a n => by
    have := joint_times a n Wm.one
    rw [Wm.one_m] at this
    unfold rowOf rowG
    rw [← this]
    rfl
  split
  · exact h g _
  · rw [undo_row]
    exact h _ _
theorem turnL_row (g h : GW) : turnL (rowG g) (rowG h) = rowG (Wm.tu g h) := by
  unfold turnL
  rw [undo_row]
  unfold rowOf rowG
  rw [Wm.joint_app, Wm.joint_app, Wm.joint_self h.2]
  rfl
theorem brackL_row (g h : GW) : brackL (rowG g) (rowG h) = rowG (Wm.br g h) := by
  unfold brackL
  rw [undo_row, undo_row]
  unfold rowOf rowG
  rw [Wm.joint_app, Wm.joint_app, Wm.joint_app, Wm.joint_self g.2]
  rfl
theorem swapL_row (g h : GW) : swapL (rowG g) (rowG h) = rowG (Wm.br g h) := by
  unfold swapL Wm.br
  rw [undo_row, undo_row, jointL_row, jointL_row, jointL_row, ← Wm.m_assoc]
theorem again_row (g : GW) (m : Int) : repL (if m > 0 then rowG g else undo (rowG g)) m.natAbs = rowG (Wm.zp g m) := by
  unfold Wm.zp
  rw [undo_row]
  split
  · exact repL_row _ _
  · exact repL_row _ _
/-- plain letters, at most so many runs -/
structure OkG (g : GW) (n : Nat) : Prop where
  pl : Pl (rowG g)
  len : g.1.length ≤ n
theorem rowG_len (g : GW) : (rowG g).length = g.1.length := List.length_reverse
theorem pl_iff {g : GW} (h : Pl g.1) : Pl (rowG g) := pl_rev h
theorem OkG.pl' {g : GW} {n : Nat} (h : OkG g n) : Pl g.1 := by
  have := pl_rev h.pl
  unfold rowG at this
  rw [List.reverse_reverse] at this
  exact this
theorem OkG.len' {g : GW} {n : Nat} (h : OkG g n) : (rowG g).length ≤ n := by
  rw [rowG_len]
  exact h.len
theorem ok_one (n : Nat) : OkG Wm.one n := ⟨(fun p hp => by cases hp), Nat.zero_le _⟩
theorem ok_m {g h : GW} {n k : Nat} (a : OkG g n) (b : OkG h k) : OkG (Wm.m g h) (n + k) := by
  refine ⟨pl_iff (pl_joint a.pl' b.pl), ?_⟩
  have := joint_len (rowG h) g.1
  have h1 := a.len
  have h2 := b.len'
  show (Wm.joint g.1 (rowG h)).length ≤ _
  omega
theorem ok_i {g : GW} {n : Nat} (a : OkG g n) : OkG (Wm.i g) n := by
  refine ⟨?_, ?_⟩
  · rw [← undo_row]
    exact pl_undo a.pl
  · have : (rowG (Wm.i g)).length = (rowG g).length := by rw [← undo_row, undo_len]
    rw [rowG_len, rowG_len] at this
    rw [this]
    exact a.len
theorem ok_np {g : GW} {n : Nat} (a : OkG g n) : ∀ k, OkG (Wm.np g k) (k * n)
  | 0 => ok_one _
  | k + 1 => by
    rw [Nat.add_mul, Nat.one_mul]
    exact ok_m (ok_np a k) a
theorem OkG.mono {g : GW} {n k : Nat} (a : OkG g n) (h : n ≤ k) : OkG g k := ⟨a.pl, Nat.le_trans a.len h⟩
theorem ok_zp {g : GW} {n k : Nat} {m : Int} (a : OkG g n) (h : m.natAbs ≤ k) : OkG (Wm.zp g m) (k * n) := by
  unfold Wm.zp
  split
  · exact (ok_np a _).mono (Nat.mul_le_mul_right _ h)
  · exact (ok_np (ok_i a) _).mono (Nat.mul_le_mul_right _ h)
theorem ok_tu {g h : GW} {n k : Nat} (a : OkG g n) (b : OkG h k) : OkG (Wm.tu g h) (k + n + k) := ok_m (ok_m b a) (ok_i b)
theorem ok_br {g h : GW} {n k : Nat} (a : OkG g n) (b : OkG h k) : OkG (Wm.br g h) (n + k + n + k) := ok_m (ok_m (ok_m a b) (ok_i a)) (ok_i b)
/-! ### readings that give a word -/
section
variable (K : PySem.W.Frag) (CW : Addr) (sg : Str)
def EvG (t : TE) (σ : L2.St) (H0 : Hp) (g : GW) (n : Nat) : Prop := OkG g n ∧ ∀ H, Same H0 H → ∀ Q : VK, (∀ x H', Same H H' → WordAt K CW H' x sg (rowG g) → Q (.ref x) H') → t σ H Q
def EvI (t : TE) (σ : L2.St) (H0 : Hp) (m : Int) : Prop := ∀ H, Same H0 H → ∀ Q : VK, Q (.int m) H → t σ H Q
def EvR (t : TE) (σ : L2.St) (H0 : Hp) (l : Row) : Prop := ∀ H, Same H0 H → ∀ Q : VK, (∀ p H', Same H H' → TupRow K H' p l → Q (.ref p) H') → t σ H Q
def EvF (t : TT) (σ : L2.St) (H0 : Hp) : Prop := ∀ H, Same H0 H → ∀ D : Bool → Hp → Prop, (∀ H', Same H H' → D false H') → t σ H D
def RowsL (H : Hp) (xs : List V) (ls : List Row) : Prop := PySem.W.EachIs (fun v l => ∃ p, v = V.ref p ∧ TupRow K H p l) xs ls
def EvA (t : TA) (σ : L2.St) (H0 : Hp) (ls : List Row) : Prop := ∀ H, Same H0 H → ∀ Q : List V → Hp → Prop, (∀ xs H', Same H H' → RowsL K H' xs ls → Q xs H') → t σ H Q
end
section
variable {K : PySem.W.Frag} {CW : Addr} {sg : Str} {σ : L2.St} {H0 : Hp} {g h : GW} {n k : Nat} {t t1 t2 tn : TE} {m : Int} {l : Row}
theorem EvG.later {H1 : Hp} (s : Same H0 H1) (e : EvG K CW sg t σ H0 g n) : EvG K CW sg t σ H1 g n := ⟨e.1, fun H s' Q q => e.2 H (s.trans s') Q q⟩
theorem ev_var {i : Nat} {a : Addr} (e : σ[i]? = some (some (.ref a))) (hw : WordAt K CW H0 a sg (rowG g)) (ok : OkG g n) : EvG K CW sg (tVar i) σ H0 g n := ⟨ok, fun H s Q q => ⟨_, e, q a H (Same.refl H) (hw.same s)⟩⟩
theorem ev_mul (hsg : Signs sg) (e1 : EvG K CW sg t1 σ H0 g n) (e2 : EvG K CW sg t2 σ H0 h k) (hn : n + k ≤ 200) : EvG K CW sg (tOp (Ow.rOwn CW (spMul K CW) E0) t1 t2) σ H0 (Wm.m g h) (n + k) := by
  refine ⟨ok_m e1.1 e2.1, fun H s Q q => e1.2 H s _ fun x H1 s1 hx => e2.2 H1 (s.trans s1) _ fun y H2 s2 hy => ?_⟩
  have hx2 := hx.same s2
  have l1 := e1.1.len'
  have l2 := e2.1.len'
  have l3 := (ok_m e1.1 e2.1).len'
  obtain ⟨dx, px, ex, rx⟩ := id hx2
  obtain ⟨dy, py, ey, ry⟩ := id hy
  refine ⟨x, y, dx, dy, _, _, rfl, rfl, ex, ey, x, y, sg, rowG g, rowG h, rfl, hsg, hx2, hy, by omega, by omega, ?_, fun z H3 s3 hz => ?_⟩
  · rw [rowOf_cat]
    omega
  · rw [rowOf_cat] at hz
    exact q z H3 ((s1.trans s2).trans s3) hz
theorem ev_inv (hsg : Signs sg) (e1 : EvG K CW sg t1 σ H0 g n) (hn : n ≤ 200) : EvG K CW sg (tUn (Ow.rOwn1 CW (spInv K CW) E0) t1) σ H0 (Wm.i g) n := by
  refine ⟨ok_i e1.1, fun H s Q q => e1.2 H s _ fun x H1 s1 hx => ?_⟩
  have l1 := e1.1.len'
  obtain ⟨dx, px, ex, rx⟩ := id hx
  refine ⟨x, dx, _, rfl, ex, x, sg, rowG g, rfl, hsg, hx, by omega, fun z H3 s3 hz => ?_⟩
  rw [undo_row, rowOf_row] at hz
  exact q z H3 (s1.trans s3) hz
theorem ev_turned (hsg : Signs sg) (e1 : EvG K CW sg t1 σ H0 g n) (e2 : EvG K CW sg t2 σ H0 h k) (hn : n ≤ 100) (hk : k ≤ 100) (hb : k + n + k ≤ 200) : EvG K CW sg (tMeth CW "turned" (spW2 K CW turnL) [] E0 t1 (tCons t2 tNil)) σ H0 (Wm.tu g h) (k + n + k) := by
  refine ⟨ok_tu e1.1 e2.1, fun H s Q q => e1.2 H s _ fun x H1 s1 hx => ?_⟩
  have l1 := e1.1.len'
  have l2 := e2.1.len'
  have l3 := (ok_tu e1.1 e2.1).len'
  obtain ⟨dx, px, ex, rx⟩ := id hx
  refine ⟨x, dx, _, rfl, ex, rfl, e2.2 H1 (s.trans s1) _ fun y H2 s2 hy => ?_⟩
  refine ⟨x, y, sg, rowG g, rowG h, rfl, hsg, hx.same s2, hy, by omega, by omega, e1.1.pl, e2.1.pl, ?_, fun z H3 s3 hz => ?_⟩
  · rw [turnL_row]
    omega
  · rw [turnL_row] at hz
    exact q z H3 ((s1.trans s2).trans s3) hz
theorem ev_bracket (hsg : Signs sg) (e1 : EvG K CW sg t1 σ H0 g n) (e2 : EvG K CW sg t2 σ H0 h k) (hn : n ≤ 100) (hk : k ≤ 100) (hb : n + k + n + k ≤ 200) : EvG K CW sg (tMeth CW "bracket" (spW2 K CW brackL) [] E0 t1 (tCons t2 tNil)) σ H0 (Wm.br g h) (n + k + n + k) := by
  refine ⟨ok_br e1.1 e2.1, fun H s Q q => e1.2 H s _ fun x H1 s1 hx => ?_⟩
  have l1 := e1.1.len'
  have l2 := e2.1.len'
  have l3 := (ok_br e1.1 e2.1).len'
  obtain ⟨dx, px, ex, rx⟩ := id hx
  refine ⟨x, dx, _, rfl, ex, rfl, e2.2 H1 (s.trans s1) _ fun y H2 s2 hy => ?_⟩
  refine ⟨x, y, sg, rowG g, rowG h, rfl, hsg, hx.same s2, hy, by omega, by omega, e1.1.pl, e2.1.pl, ?_, fun z H3 s3 hz => ?_⟩
  · rw [brackL_row]
    omega
  · rw [brackL_row] at hz
    exact q z H3 ((s1.trans s2).trans s3) hz
theorem ev_power (hsg : Signs sg) (e1 : EvG K CW sg t1 σ H0 g n) (e2 : EvI tn σ H0 m) (hn : n ≤ 200) (hm : m.natAbs ≤ k) (hk : k ≤ 400) (hb : k * n ≤ 200) : EvG K CW sg (tMeth CW "power" (spPow K CW) [] E0 t1 (tCons tn tNil)) σ H0 (Wm.zp g m) (k * n) := by
  refine ⟨ok_zp e1.1 hm, fun H s Q q => e1.2 H s _ fun x H1 s1 hx => ?_⟩
  have l1 := e1.1.len'
  have l3 := (ok_zp e1.1 hm).len'
  obtain ⟨dx, px, ex, rx⟩ := id hx
  refine ⟨x, dx, _, rfl, ex, rfl, e2 H1 (s.trans s1) _ ?_⟩
  refine ⟨x, sg, rowG g, m, rfl, hsg, hx, by omega, by omega, ?_, fun z H3 s3 hz => ?_⟩
  · rw [powL_row]
    omega
  · rw [powL_row] at hz
    exact q z H3 (s1.trans s3) hz
theorem ev_runs (e1 : EvG K CW sg t1 σ H0 g n) : EvR K (tProp CW (spRuns K CW) [] E0 t1) σ H0 (rowG g) := fun H s Q q => e1.2 H s _ fun x H1 s1 hx => by
  obtain ⟨dx, px, ex, rx⟩ := id hx
  exact ⟨x, dx, _, rfl, ex, x, sg, rowG g, rfl, hx, fun p hp => q p H1 s1 hp⟩
theorem ef_or {u v : TT} (e1 : EvF u σ H0) (e2 : EvF v σ H0) : EvF (tOr u v) σ H0 := fun H s D q => e1 H s _ fun H1 s1 => iteF (e2 H1 (s.trans s1) _ fun H2 s2 => q H2 (s1.trans s2))
theorem ef_ne (e1 : EvG K CW sg t1 σ H0 g n) (e2 : EvG K CW sg t2 σ H0 h k) (he : g = h) : EvF (tTest (tOp (Ow.rOwnNe CW (spEq K CW) E0) t1 t2)) σ H0 := fun H s D q => e1.2 H s _ fun x H1 s1 hx => e2.2 H1 (s.trans s1) _ fun y H2 s2 hy => by
  subst he
  have hx2 := hx.same s2
  obtain ⟨dx, px, ex, rx⟩ := id hx2
  obtain ⟨dy, py, ey, ry⟩ := id hy
  refine ⟨x, y, dx, dy, _, _, rfl, rfl, ex, ey, x, y, sg, rowG g, rowG g, rfl, hx2, hy, e1.1.pl, e1.1.pl, _, rfl, _, rfl, ?_⟩
  rw [decide_eq_true rfl]
  exact q H2 (s1.trans s2)
theorem ef_len (e1 : EvG K CW sg t1 σ H0 g n) (he : g = Wm.one) : EvF (tTest (tOp rNe (tCB (Ow.rLenOwn CW (spLen K CW) E0) (tCons t1 tNil)) (tC (.int 0)))) σ H0 := fun H s D q => e1.2 H s _ fun x H1 s1 hx => by
  subst he
  obtain ⟨dx, px, ex, rx⟩ := id hx
  refine ⟨x, dx, _, rfl, ex, x, sg, _, rfl, hx, 0, rfl, by decide, by decide, rfl, _, rfl, ?_⟩
  exact q H1 s1
theorem ea_nil : EvA K tNil σ H0 [] := fun H s Q q => q [] H (Same.refl H) .nil
theorem RowsL.same {H H' : Hp} {xs : List V} {ls : List Row} (s : Same H H') (h : RowsL K H xs ls) : RowsL K H' xs ls := h.mono fun v l ⟨p, e, r⟩ => ⟨p, e, r.same s⟩
theorem ea_cons {ta : TA} {ls : List Row} (e1 : EvR K t1 σ H0 l) (e2 : EvA K ta σ H0 ls) : EvA K (tCons t1 ta) σ H0 (l :: ls) := fun H s Q q => e1 H s _ fun p H1 s1 hp => e2 H1 (s.trans s1) _ fun xs H2 s2 hx => q _ H2 (s1.trans s2) (.cons ⟨p, rfl, hp.same s2⟩ hx)
/-! the law's own rows -/
theorem er_call2 {B : Nat} {f : Row → Row → Row} {l k : Row} (e1 : EvR K t1 σ H0 l) (e2 : EvR K t2 σ H0 k) (hl : l.length ≤ B) (hk : k.length ≤ B) (pl : Pl l) (pk : Pl k) : EvR K (tCall (spRow2 K B f) [] E0 (tCons t1 (tCons t2 tNil))) σ H0 (f l k) := fun H s Q q => e1 H s _ fun p H1 s1 hp => e2 H1 (s.trans s1) _ fun p2 H2 s2 hp2 =>
  ⟨p, p2, l, k, rfl, hp.same s2, hp2, hl, hk, pl, pk, fun p3 H3 s3 h3 => q p3 H3 ((s1.trans s2).trans s3) h3⟩
theorem er_call1 {f : Row → Row} {l : Row} (e1 : EvR K t1 σ H0 l) (hl : l.length ≤ 1000000) : EvR K (tCall (spRow1 K f) [] E0 (tCons t1 tNil)) σ H0 (f l) := fun H s Q q => e1 H s _ fun p H1 s1 hp =>
  ⟨p, l, rfl, hp, hl, fun p3 H3 s3 h3 => q p3 H3 (s1.trans s3) h3⟩
theorem er_rep {l : Row} (e1 : EvR K t1 σ H0 l) (e2 : EvI tn σ H0 m) (hl : l.length ≤ 100) (pl : Pl l) (hm : m.natAbs ≤ 400) : EvR K (tCall (spRep K) [] E0 (tCons t1 (tCons tn tNil))) σ H0 (repL (if m > 0 then l else undo l) m.natAbs) := fun H s Q q => e1 H s _ fun p H1 s1 hp => e2 H1 (s.trans s1) _
  ⟨p, l, m, rfl, hp, hl, pl, hm, fun p3 H3 s3 h3 => q p3 H3 (s1.trans s3) h3⟩
/-- rows[i] -/
theorem er_ix {i j : Nat} {a : Addr} {xs : List V} {ls : List Row} (e : σ[i]? = some (some (.ref a))) (ha : H0 a = some (.lst xs)) (hr : RowsL K H0 xs ls) (hj : ls[j]? = some l) : EvR K (tOp (rIxL K) (tVar i) (tC (.int (j : Int)))) σ H0 l := fun H s Q q => by
  have hlen : xs.length = ls.length := hr.length
  have hjl := (List.getElem?_eq_some_iff.mp hj).1
  have hx : xs[j]? = some xs[j] := List.getElem?_eq_getElem (by omega)
  obtain ⟨p, e1, hp⟩ : ∃ p, xs[j] = V.ref p ∧ TupRow K H0 p l := hr.zip (xs[j], l) (List.mem_of_getElem? (i := j) (by rw [List.getElem?_zip_eq_some]; exact ⟨hx, hj⟩))
  rw [e1] at hx
  exact ⟨_, e, a, xs, (j : Int), .ref p, rfl, rfl, SqL.of (s _ _ ha), atI_nat hx, q p H (Same.refl H) (hp.same s)⟩
/-! lists of rows as data -/
def rowsDD (ls : List Row) : List PyData := ls.map fun l => .tuple (rowsD l)
theorem rowsDD_all {H : Hp} : ∀ {xs : List V} {ls : List Row}, RowsL K H xs ls → DpAll K H xs (rowsDD ls)
  | _, _, .nil => .nil
  | _, _, .cons ⟨p, e, ys, hy, hp⟩ h => by
    subst e
    exact .cons (.tup hy (rows_all hp)) (rowsDD_all h)
theorem rowsDD_shaped {ls : List Row} (h : ∀ l ∈ ls, Pl l) : SeqAt.shaped (.list (rowsDD ls)) = true := by
  unfold SeqAt.shaped
  rw [Bool.and_eq_true]
  refine ⟨lay_flat _ fun d hd => ?_, decide_eq_true (Nat.le_trans (m := 3) ?_ (by decide))⟩
  · obtain ⟨l, hl, rfl⟩ := List.mem_map.mp hd
    exact row_lays (h l hl)
  · show PyData.depthAll (rowsDD ls) + 1 ≤ 3
    have := deep_flat 2 (rowsDD ls) fun d hd => by
      obtain ⟨l, _, rfl⟩ := List.mem_map.mp hd
      exact row_deep l
    omega
end
end K4

set_option Elab.async false
set_option linter.all false
set_option maxRecDepth 100000
set_option maxHeartbeats 6400000
namespace K4
open PySem L2 Tx Tg Tm
abbrev nRight : List Str := ["_law_cup_here", "_law_signs_here", "_law_turn", "_law_rows", "_law_row_here", "_law_one", "_law_two", "_law_three", "_law_many", "_law_more", "_law_told", "_law_due"]
theorem scRight : FnScope nRight ["_law_cup_here"] (defScope sRight) := ⟨rfl, rfl, rfl, by decide +kernel, rfl, by decide +kernel, by decide +kernel⟩
/-- the class's methods -/
structure Cl4 (P : Program) (w : World) (K : PySem.W.Frag) (mg : Str → Option Value) (base : Heap) (CW : Addr) where
  (fMul fInv fEq fLen fPow fTu fBr fRu pR : Addr)
  (dMul dInv dEq dLen dPow dTu dBr dRu : FuncData)
  gMul : FnOk P w K mg base CX0 6 fMul dMul ["self", "other"] (spMul K CW)
  gInv : FnOk P w K mg base CX0 6 fInv dInv ["self"] (spInv K CW)
  gEq : FnOk P w K mg base CX0 1 fEq dEq ["self", "other"] (spEq K CW)
  gLen : FnOk P w K mg base CX0 1 fLen dLen ["self"] (spLen K CW)
  gPow : FnOk P w K mg base CX0 6 fPow dPow ["self", "number"] (spPow K CW)
  gTu : FnOk P w K mg base CX0 6 fTu dTu ["self", "other"] (spW2 K CW turnL)
  gBr : FnOk P w K mg base CX0 6 fBr dBr ["self", "other"] (spW2 K CW brackL)
  gRu : FnOk P w K mg base CX0 1 fRu dRu ["self"] (spRuns K CW)
  bMul : Binds K dMul ["self", "other"] []
  bInv : Binds K dInv ["self"] []
  bEq : Binds K dEq ["self", "other"] []
  bLen : Binds K dLen ["self"] []
  bPow : Binds K dPow ["self", "number"] []
  bTu : Binds K dTu ["self", "other"] []
  bBr : Binds K dBr ["self", "other"] []
  bRu : Binds K dRu ["self"] []
  hc : PySem.W.selfFirst K CW = true
  nf : PySem.W.notFirst K CW (.ref CW) = true
  ob : PySem.W.subIn K (.ref CW) (.type "object") = some true
  sMul : PySem.W.findIn K (.ref CW) "__mul__" = some (some (.ref fMul))
  sInv : PySem.W.findIn K (.ref CW) "__invert__" = some (some (.ref fInv))
  sEq : PySem.W.findIn K (.ref CW) "__eq__" = some (some (.ref fEq))
  sNe : PySem.W.findIn K (.ref CW) "__ne__" = some (some (.builtin "object.__ne__"))
  sLen : PySem.W.findIn K (.ref CW) "__len__" = some (some (.ref fLen))
  fnMul : PySem.W.isFn K (.ref fMul) = true
  fnInv : PySem.W.isFn K (.ref fInv) = true
  fnEq : PySem.W.isFn K (.ref fEq) = true
  fnLen : PySem.W.isFn K (.ref fLen) = true
  mPow : Meth K CW "power" fPow
  mTu : Meth K CW "turned" fTu
  mBr : Meth K CW "bracket" fBr
  pRu : PropOf K CW "runs" pR fRu
theorem WordAt.but {K : PySem.W.Frag} {CW : Addr} {H H' : Hp} {c a : Addr} {sg : Str} {l : Row} (hc : Cup H c) (b : But c H H') (h : WordAt K CW H a sg l) : WordAt K CW H' a sg l := by
  obtain ⟨dx, p, e, r⟩ := h
  refine ⟨dx, p, b _ _ (fun z => ?_) e, r.but hc b⟩
  obtain ⟨a0, a1, a2, ec⟩ := hc
  rw [z, ec] at e
  cases e
theorem RowsL.but {K : PySem.W.Frag} {H H' : Hp} {c : Addr} {xs : List V} {ls : List Row} (hc : Cup H c) (b : But c H H') (h : RowsL K H xs ls) : RowsL K H' xs ls := h.mono fun v l ⟨p, e, r⟩ => ⟨p, e, r.but hc b⟩
theorem TupRow.offL {K : PySem.W.Frag} {H H' : Hp} {c a : Addr} {xs : List V} {l : Row} (hc : H c = some (.lst xs)) (b : But c H H') (h : TupRow K H a l) : TupRow K H' a l := by
  have nc : ∀ {q : Addr} {o : HO}, H q = some o → (∀ ys, o ≠ .lst ys) → q ≠ c := fun e n z => by
    rw [z, hc] at e
    exact n _ (Option.some.inj e).symm
  obtain ⟨ys, ha, hp⟩ := h
  refine ⟨ys, ?_, hp.mono fun y p ⟨t, e1, e2⟩ => ⟨t, e1, b _ _ (nc e2 fun _ z => by cases z) e2⟩⟩
  rcases ha with h | h
  · rcases h with h | ⟨o, h⟩
    · exact .inl (.inl (b _ _ (nc h fun _ z => by cases z) h))
    · exact .inl (.inr ⟨o, b _ _ (nc h fun _ z => by cases z) h⟩)
  · exact .inr h
theorem RowsL.offL {K : PySem.W.Frag} {H H' : Hp} {c : Addr} {ys xs : List V} {ls : List Row} (hc : H c = some (.lst ys)) (b : But c H H') (h : RowsL K H xs ls) : RowsL K H' xs ls := h.mono fun v l ⟨p, e, r⟩ => ⟨p, e, r.offL hc b⟩
theorem WordAt.offL {K : PySem.W.Frag} {CW : Addr} {H H' : Hp} {c a : Addr} {xs : List V} {sg : Str} {l : Row} (hc : H c = some (.lst xs)) (b : But c H H') (h : WordAt K CW H a sg l) : WordAt K CW H' a sg l := by
  obtain ⟨dx, p, e, r⟩ := h
  refine ⟨dx, p, b _ _ (fun z => ?_) e, r.offL hc b⟩
  rw [z, hc] at e
  cases e
def WordsL (K : PySem.W.Frag) (CW : Addr) (sg : Str) (H : Hp) (xs : List V) (ls : List Row) : Prop := PySem.W.EachIs (fun v l => ∃ a, v = V.ref a ∧ WordAt K CW H a sg l) xs ls
theorem WordsL.same {K : PySem.W.Frag} {CW : Addr} {sg : Str} {H H' : Hp} {xs : List V} {ls : List Row} (s : Same H H') (h : WordsL K CW sg H xs ls) : WordsL K CW sg H' xs ls := h.mono fun v l ⟨p, e, r⟩ => ⟨p, e, r.same s⟩
theorem WordsL.offL {K : PySem.W.Frag} {CW : Addr} {sg : Str} {H H' : Hp} {c : Addr} {ys xs : List V} {ls : List Row} (hc : H c = some (.lst ys)) (b : But c H H') (h : WordsL K CW sg H xs ls) : WordsL K CW sg H' xs ls := h.mono fun v l ⟨p, e, r⟩ => ⟨p, e, r.offL hc b⟩
/-- a drawn row -/
structure Good (sg : Str) (l : Row) : Prop where
  red : Wm.Red l.reverse
  ru : Ru sg (4 * 10 ^ 31) l
  len : l.length ≤ 4
def gOf {sg : Str} {l : Row} (h : Good sg l) : GW := ⟨l.reverse, h.red⟩
theorem gOf_row {sg : Str} {l : Row} (h : Good sg l) : rowG (gOf h) = l := List.reverse_reverse l
theorem Good.row {sg : Str} {l : Row} (h : Good sg l) : rowOf l = l := by
  have := rowOf_row (gOf h)
  rw [gOf_row] at this
  exact this
theorem Good.ok {sg : Str} {l : Row} (hs : Signs sg) (h : Good sg l) : OkG (gOf h) 4 := ⟨by
  rw [gOf_row]
  exact h.ru.pl (signs_plain hs), by
  show l.reverse.length ≤ 4
  rw [List.length_reverse]
  exact h.len⟩
section
variable {K : PySem.W.Frag} {σ : L2.St} {H0 H : Hp} {ls : List Row} {ta : TA} {te : TE} {u : TS} {D : Ends} {l : Row}
theorem seq_lst {i : Nat} (e : EvA K ta σ H0 ls) (s : Same H0 H) (hl : ls.length ≤ 10) (q : ∀ xs p H2, Same H H2 → H p = none → H2 p = some (.lst xs) → RowsL K H2 xs ls → u D (σ.set i (some (.ref p))) H2) : tSeq (tAsg (tLst ta) (gName i)) u D σ H :=
  e H s _ fun xs H1 s1 hx => ⟨by rw [hx.length]; exact Nat.le_trans hl (by decide), fun p np => q xs p _ (s1.trans (same_upd np)) (free_none s1 np) upd_same (hx.same (same_upd np))⟩
theorem seq_if {tt : TT} (e : EvF tt σ H0) (s : Same H0 H) (q : ∀ H', Same H H' → u D σ H') : tSeq (tIfS tt (tRet (tC (.bl false))) tNext) u D σ H := e H s _ fun H' s' => iteF (q H' s')
theorem seq_app {i : Nat} {pd : Addr} {ys : List V} (e : EvR K te σ H0 l) (s : Same H0 H) (hi : σ[i]? = some (some (.ref pd))) (hp : H pd = some (.lst ys)) (hl : ys.length ≤ 10) (hy : RowsL K H ys ls)
    (q : ∀ xs H2, But pd H H2 → H2 pd = some (.lst xs) → RowsL K H2 xs (ls ++ [l]) → u D σ H2) : tSeq (tDrop (tBM K "list" rAppend (tVar i) (tCons te tNil))) u D σ H := by
  refine ⟨_, hi, .inl ⟨rfl, _, SqL.of hp⟩, e H s _ fun p H1 s1 h1 => ?_⟩
  have e1 := s1 _ _ hp
  refine ⟨pd, ys, .ref p, rfl, rfl, e1, Nat.lt_of_le_of_lt hl (by decide), ?_⟩
  exact q _ _ ((But.of s1).trans But.put) upd_same (each_app ((hy.same s1).offL e1 But.put) (.cons ⟨p, rfl, h1.offL e1 But.put⟩ .nil))
theorem rowsDD_self {ls : List Row} (h : ∀ l ∈ ls, Pl l) : PyData.eqv (.list (rowsDD ls)) (.list (rowsDD ls)) = true := by
  have := rowsDD_shaped h
  unfold SeqAt.shaped at this
  rw [Bool.and_eq_true] at this
  exact SeqAt.eqv_refl _ this.1
theorem ret_last {i n k : Nat} {RD CW : Addr} {sg : Str} {zs : List V} {t1 t2 : TE} {g h : GW} (e : EvA K ta σ H0 ls) (s : Same H0 H) (hi : σ[i]? = some (some (.ref RD))) (hD : H0 RD = some (.lst zs)) (hz : RowsL K H0 zs ls) (hl : ls.length ≤ 10) (hp : ∀ l ∈ ls, Pl l)
    (e1 : EvG K CW sg t1 σ H0 g n) (e2 : EvG K CW sg t2 σ H0 h k) (he : g = h) (q : ∀ H', Same H H' → D.rt (.bl true) H') : tRet (tAndV (tOp (rEqD K) (tLst ta) (tVar i)) (tOp (Ow.rOwn CW (spEq K CW) E0) t1 t2)) D σ H := by
  subst he
  refine e H s _ fun xs H1 s1 hx => ⟨by rw [hx.length]; exact Nat.le_trans hl (by decide), fun p np => ?_⟩
  have s2 := s1.trans (same_upd (o := .lst xs) np)
  refine ⟨_, hi, .list (rowsDD ls), .list (rowsDD ls), .lst (SqL.of upd_same) (rowsDD_all (hx.same (same_upd np))), .lst (SqL.of ((s.trans s2) _ _ hD)) (rowsDD_all (hz.same (s.trans s2))), rowsDD_shaped hp, rowsDD_shaped hp, _, rfl, ?_⟩
  rw [rowsDD_self hp]
  refine iteT ?_
  refine e1.2 _ (s.trans s2) _ fun x H3 s3 hx3 => e2.2 H3 ((s.trans s2).trans s3) _ fun y H4 s4 hy => ?_
  have hx4 := hx3.same s4
  obtain ⟨dx, px, ex, rx⟩ := id hx4
  obtain ⟨dy, py, ey, ry⟩ := id hy
  refine ⟨x, y, dx, dy, _, _, rfl, rfl, ex, ey, x, y, sg, rowG g, rowG g, rfl, hx4, hy, e1.1.pl, e1.1.pl, ?_⟩
  rw [decide_eq_true rfl]
  exact q H4 ((s2.trans s3).trans s4)
end
def spRight : Sp := fun vs H Q _ => ∃ c : Addr, vs = [.ref c] ∧ Cup H c ∧ ∀ H', But c H H' → Q (.bl true) H'
section
variable {P : Program} {w : World} {K : PySem.W.Frag} {mg : Str → Option Value} {base : Heap}
theorem ok_right {CM CW fMI fWI f fSg fB fP fW fPut fRow fJ fU fRep fSw : Addr} {dMI dWI fd fdSg fdB fdP fdW fdPut fdRow fdJ fdU fdRep fdSw : FuncData} (F : Fun K "_law_right" "_law_right" sRight f fd) (T : Txt K mg) (G : Makes4 P w K mg base CM CW fMI fWI dMI dWI) (C : Cl4 P w K mg base CW)
    (DB : Df K mg "_law_bit" sBit ["_law_cup_here", "_law_much"] fB fdB) (DP : Df K mg "_law_pick" sPick ["_law_cup_here", "_law_items"] fP fdP) (DSg : Df K mg "_law_signs" sSigns ["_law_cup_here"] fSg fdSg)
    (DW : Df K mg "_law_power" sPower ["_law_cup_here", "_law_most"] fW fdW) (DPut : Df K mg "_law_put_row" sPut ["_law_row_here", "_law_sign", "_law_much"] fPut fdPut) (DRow : Df K mg "_law_row" sRow ["_law_cup_here", "_law_signs_here", "_law_much", "_law_most"] fRow fdRow)
    (DJ : Df K mg "_law_joint" sLJoint ["_law_row_here", "_law_other"] fJ fdJ) (DU : Df K mg "_law_undone" sLUndone ["_law_row_here"] fU fdU) (DRep : Df K mg "_law_repeated" sRep ["_law_row_here", "_law_much"] fRep fdRep) (DSw : Df K mg "_law_swapped" sSwap ["_law_row_here", "_law_other"] fSw fdSw) :
    FnOk P w K mg base CX0 7 f fd ["_law_cup_here"] spRight := by
  have GB := ok_bit (P := P) (w := w) (base := base) DB.F T
  have GSg := (ok_signs (P := P) (w := w) (base := base) DSg.F T DB DP)
  have GRow := ok_row (P := P) (w := w) (base := base) DRow.F T DB DP DW DPut
  have GJ := ok_ljoint (P := P) (w := w) (base := base) DJ.F T DPut
  have GU := ok_lundone (P := P) (w := w) (base := base) DU.F T
  have GRep := ok_rep (P := P) (w := w) (base := base) DRep.F T DJ GJ DU
  have GSw := ok_swap (P := P) (w := w) (base := base) DSw.F T DJ GJ DU
  refine F.ok scRight (fun vs H Q E h => ?_) (fun cdv A outer s H vs Q E hr h => ?_)
  · obtain ⟨c, rfl, _⟩ := h
    rfl
  · obtain ⟨c, rfl, hc, q⟩ := h
    have r1 : Room 1 _ := hr.mono (by decide)
    have r2 : Room 2 _ := hr.mono (by decide)
    have r3 : Room 3 _ := hr.mono (by decide)
    have r5 : Room 5 _ := hr.mono (by decide)
    have r6 : Room 6 _ := hr
    refine ⟨_, (pss_cons (ps_set (i := 1) scRight.nd rfl (Or.inr rfl) (pe_call GSg r3 (by rfl) DSg.m DSg.F.kp DSg.b .nil pass0 (pa_cons (pv 0) pa_nil)))
      (pss_cons (ps_setLc (i := 3) (own := [("_law_turn", 2)]) (g := gName 2) (tt := tYes) rfl scRight.nd rfl rfl (by rfl) (pi_range1 rfl T.range (pa_cons pe_int pa_nil))
          (blkOk_by (own := [("_law_turn", 2)]) (N := nRight) (sc := defScope sRight) (by decide +kernel)) (fun _ _ _ _ _ => pg_name (i := 2) scRight.nd rfl (Or.inl rfl)) (fun _ _ _ _ _ => pts_nil)
          (fun _ _ _ _ _ => pe_call GRow r3 (by rfl) DRow.m DRow.F.kp DRow.b .nil pass0 (pa_cons (pv 0) (pa_cons (pv 1) (pa_cons pe_int (pa_cons pe_int pa_nil))))))
      (pss_cons (ps_asg (pe_lc (own := [("_law_row_here", 4)]) (g := gName 4) (tt := tYes) rfl scRight.nd (pi_list (pv 3))
          (blkOk_by (own := [("_law_row_here", 4)]) (N := nRight) (sc := defScope sRight) (by decide +kernel)) (fun _ _ _ _ _ => pg_name (i := 4) scRight.nd rfl (Or.inl rfl)) (fun _ _ _ _ _ => pts_nil)
          (fun _ _ _ _ _ => pe_make G.mW G.gWI r5 (by rfl) G.W.gW G.bWI .nil pass0 (pa_cons (pv 1) (pa_cons (pv 4) pa_nil))))
        (pg_lst rfl (pgs_cons (pg_name (i := 5) scRight.nd rfl (Or.inl rfl)) (pgs_cons (pg_name (i := 6) scRight.nd rfl (Or.inl rfl)) (pgs_cons (pg_name (i := 7) scRight.nd rfl (Or.inl rfl)) pgs_nil)))))
      (pss_cons (ps_par (i := 8) (j := 9) (by rfl) scRight.nd rfl rfl (by decide) rfl rfl (pa_cons (pe_op op_sub (pe_call GB r1 (by rfl) DB.m DB.F.kp DB.b .nil pass0 (pa_cons (pv 0) (pa_cons pe_int pa_nil))) pe_int) (pa_cons (pe_op op_sub (pe_call GB r1 (by rfl) DB.m DB.F.kp DB.b .nil pass0 (pa_cons (pv 0) (pa_cons pe_int pa_nil))) pe_int) pa_nil)) (by rfl))
      (pss_cons (ps_set (i := 10) scRight.nd rfl (Or.inl rfl) (pe_lst (pa_cons (pe_prop (pe_op (Ow.op_own C.gMul r6 C.hc C.sMul C.fnMul C.bMul pass0) (pv 5) (pv 6)) G.W.clW C.pRu C.gRu r2 C.bRu .nil pass0 rfl) (pa_cons (pe_prop (pe_un (Ow.un_own C.gInv r6 C.sInv C.fnInv C.bInv pass0) (pv 5)) G.W.clW C.pRu C.gRu r2 C.bRu .nil pass0 rfl) (pa_cons (pe_prop (pe_meth (pv 5) G.W.clW C.mPow C.gPow r6 C.bPow .nil pass0 (pa_cons (pv 8) pa_nil)) G.W.clW C.pRu C.gRu r2 C.bRu .nil pass0 rfl) (pa_cons (pe_prop (pe_meth (pv 5) G.W.clW C.mTu C.gTu r6 C.bTu .nil pass0 (pa_cons (pv 6) pa_nil)) G.W.clW C.pRu C.gRu r2 C.bRu .nil pass0 rfl) (pa_cons (pe_prop (pe_meth (pv 5) G.W.clW C.mBr C.gBr r6 C.bBr .nil pass0 (pa_cons (pv 6) pa_nil)) G.W.clW C.pRu C.gRu r2 C.bRu .nil pass0 rfl) pa_nil)))))))
      (pss_cons (ps_set (i := 11) scRight.nd rfl (Or.inl rfl) (pe_lst (pa_cons (pe_call GJ r2 (by rfl) DJ.m DJ.F.kp DJ.b .nil pass0 (pa_cons (pe_ix ix_list (pv 3) pe_int (fun _ _ => rfl)) (pa_cons (pe_ix ix_list (pv 3) pe_int (fun _ _ => rfl)) pa_nil))) (pa_cons (pe_call GU r1 (by rfl) DU.m DU.F.kp DU.b .nil pass0 (pa_cons (pe_ix ix_list (pv 3) pe_int (fun _ _ => rfl)) pa_nil)) (pa_cons (pe_call GRep r3 (by rfl) DRep.m DRep.F.kp DRep.b .nil pass0 (pa_cons (pe_ix ix_list (pv 3) pe_int (fun _ _ => rfl)) (pa_cons (pv 8) pa_nil))) pa_nil)))))
      (pss_cons (ps_expr (pe_bm PySem.F.plainAttrs_list PySem.F.slot_list_append PySem.F.type_list_append mt_append (pv 11) (pa_cons (pe_call GJ r2 (by rfl) DJ.m DJ.F.kp DJ.b .nil pass0 (pa_cons (pe_call GJ r2 (by rfl) DJ.m DJ.F.kp DJ.b .nil pass0 (pa_cons (pe_ix ix_list (pv 3) pe_int (fun _ _ => rfl)) (pa_cons (pe_ix ix_list (pv 3) pe_int (fun _ _ => rfl)) pa_nil))) (pa_cons (pe_call GU r1 (by rfl) DU.m DU.F.kp DU.b .nil pass0 (pa_cons (pe_ix ix_list (pv 3) pe_int (fun _ _ => rfl)) pa_nil)) pa_nil))) pa_nil)))
      (pss_cons (ps_if (pt_cmpR (op_neD hr.units) (pv 10) (pe_op op_cat (pv 11) (pe_lst (pa_cons (pe_call GSw r3 (by rfl) DSw.m DSw.F.kp DSw.b .nil pass0 (pa_cons (pe_ix ix_list (pv 3) pe_int (fun _ _ => rfl)) (pa_cons (pe_ix ix_list (pv 3) pe_int (fun _ _ => rfl)) pa_nil))) pa_nil))) (nomark _)) (pss_one (ps_ret pe_bl)) pss_nil)
      (pss_cons (ps_if (PW.pt (pw_or (pt_cmpR (Ow.ne_own C.gEq r2 C.ob C.sNe C.sEq C.fnEq C.bEq pass0) (pe_op (Ow.op_own C.gMul r6 C.hc C.sMul C.fnMul C.bMul pass0) (pe_op (Ow.op_own C.gMul r6 C.hc C.sMul C.fnMul C.bMul pass0) (pv 5) (pv 6)) (pv 7)) (pe_op (Ow.op_own C.gMul r6 C.hc C.sMul C.fnMul C.bMul pass0) (pv 5) (pe_op (Ow.op_own C.gMul r6 C.hc C.sMul C.fnMul C.bMul pass0) (pv 6) (pv 7))) (nomark _)) (pw_or (pt_cmpR (Ow.ne_own C.gEq r2 C.ob C.sNe C.sEq C.fnEq C.bEq pass0) (pe_un (Ow.un_own C.gInv r6 C.sInv C.fnInv C.bInv pass0) (pe_op (Ow.op_own C.gMul r6 C.hc C.sMul C.fnMul C.bMul pass0) (pv 5) (pv 6))) (pe_op (Ow.op_own C.gMul r6 C.hc C.sMul C.fnMul C.bMul pass0) (pe_un (Ow.un_own C.gInv r6 C.sInv C.fnInv C.bInv pass0) (pv 6)) (pe_un (Ow.un_own C.gInv r6 C.sInv C.fnInv C.bInv pass0) (pv 5))) (nomark _)) (pw_or (pt_cmpR op_ne (pe_callB (Ow.len_own C.gLen r2 C.sLen C.fnLen C.bLen pass0) (by rfl) T.len PySem.boot_len (pa_cons (pe_op (Ow.op_own C.gMul r6 C.hc C.sMul C.fnMul C.bMul pass0) (pv 5) (pe_un (Ow.un_own C.gInv r6 C.sInv C.fnInv C.bInv pass0) (pv 5))) pa_nil)) pe_int (nomark _)) (pw_or1 (pt_cmpR (Ow.ne_own C.gEq r2 C.ob C.sNe C.sEq C.fnEq C.bEq pass0) (pe_un (Ow.un_own C.gInv r6 C.sInv C.fnInv C.bInv pass0) (pe_un (Ow.un_own C.gInv r6 C.sInv C.fnInv C.bInv pass0) (pv 7))) (pv 7) (nomark _))))))) (pss_one (ps_ret pe_bl)) pss_nil)
      (pss_cons (ps_if (PW.pt (pw_or (pt_cmpR (Ow.ne_own C.gEq r2 C.ob C.sNe C.sEq C.fnEq C.bEq pass0) (pe_op (Ow.op_own C.gMul r6 C.hc C.sMul C.fnMul C.bMul pass0) (pe_meth (pv 5) G.W.clW C.mPow C.gPow r6 C.bPow .nil pass0 (pa_cons (pv 8) pa_nil)) (pe_meth (pv 5) G.W.clW C.mPow C.gPow r6 C.bPow .nil pass0 (pa_cons (pv 9) pa_nil))) (pe_meth (pv 5) G.W.clW C.mPow C.gPow r6 C.bPow .nil pass0 (pa_cons (pe_op op_add (pv 8) (pv 9)) pa_nil)) (nomark _)) (pw_or1 (pt_cmpR (Ow.ne_own C.gEq r2 C.ob C.sNe C.sEq C.fnEq C.bEq pass0) (pe_meth (pe_op (Ow.op_own C.gMul r6 C.hc C.sMul C.fnMul C.bMul pass0) (pv 5) (pv 6)) G.W.clW C.mTu C.gTu r6 C.bTu .nil pass0 (pa_cons (pv 7) pa_nil)) (pe_op (Ow.op_own C.gMul r6 C.hc C.sMul C.fnMul C.bMul pass0) (pe_meth (pv 5) G.W.clW C.mTu C.gTu r6 C.bTu .nil pass0 (pa_cons (pv 7) pa_nil)) (pe_meth (pv 6) G.W.clW C.mTu C.gTu r6 C.bTu .nil pass0 (pa_cons (pv 7) pa_nil))) (nomark _))))) (pss_one (ps_ret pe_bl)) pss_nil)
      (pss_cons (ps_if (PW.pt (pw_or (pt_cmpR (Ow.ne_own C.gEq r2 C.ob C.sNe C.sEq C.fnEq C.bEq pass0) (pe_meth (pe_meth (pv 5) G.W.clW C.mPow C.gPow r6 C.bPow .nil pass0 (pa_cons (pv 9) pa_nil)) G.W.clW C.mTu C.gTu r6 C.bTu .nil pass0 (pa_cons (pv 6) pa_nil)) (pe_meth (pe_meth (pv 5) G.W.clW C.mTu C.gTu r6 C.bTu .nil pass0 (pa_cons (pv 6) pa_nil)) G.W.clW C.mPow C.gPow r6 C.bPow .nil pass0 (pa_cons (pv 9) pa_nil)) (nomark _)) (pw_or1 (pt_cmpR (Ow.ne_own C.gEq r2 C.ob C.sNe C.sEq C.fnEq C.bEq pass0) (pe_meth (pe_meth (pv 5) G.W.clW C.mTu C.gTu r6 C.bTu .nil pass0 (pa_cons (pv 6) pa_nil)) G.W.clW C.mTu C.gTu r6 C.bTu .nil pass0 (pa_cons (pv 7) pa_nil)) (pe_meth (pv 5) G.W.clW C.mTu C.gTu r6 C.bTu .nil pass0 (pa_cons (pe_op (Ow.op_own C.gMul r6 C.hc C.sMul C.fnMul C.bMul pass0) (pv 7) (pv 6)) pa_nil)) (nomark _))))) (pss_one (ps_ret pe_bl)) pss_nil)
      (pss_cons (ps_if (PW.pt (pw_or (pt_cmpR (Ow.ne_own C.gEq r2 C.ob C.sNe C.sEq C.fnEq C.bEq pass0) (pe_meth (pe_meth (pv 5) G.W.clW C.mBr C.gBr r6 C.bBr .nil pass0 (pa_cons (pv 6) pa_nil)) G.W.clW C.mTu C.gTu r6 C.bTu .nil pass0 (pa_cons (pv 7) pa_nil)) (pe_meth (pe_meth (pv 5) G.W.clW C.mTu C.gTu r6 C.bTu .nil pass0 (pa_cons (pv 7) pa_nil)) G.W.clW C.mBr C.gBr r6 C.bBr .nil pass0 (pa_cons (pe_meth (pv 6) G.W.clW C.mTu C.gTu r6 C.bTu .nil pass0 (pa_cons (pv 7) pa_nil)) pa_nil)) (nomark _)) (pw_or1 (pt_cmpR op_ne (pe_callB (Ow.len_own C.gLen r2 C.sLen C.fnLen C.bLen pass0) (by rfl) T.len PySem.boot_len (pa_cons (pe_op (Ow.op_own C.gMul r6 C.hc C.sMul C.fnMul C.bMul pass0) (pe_meth (pv 5) G.W.clW C.mBr C.gBr r6 C.bBr .nil pass0 (pa_cons (pv 6) pa_nil)) (pe_meth (pv 6) G.W.clW C.mBr C.gBr r6 C.bBr .nil pass0 (pa_cons (pv 5) pa_nil))) pa_nil)) pe_int (nomark _))))) (pss_one (ps_ret pe_bl)) pss_nil)
      (pss_one (ps_ret (pe_and (pe_cmpR (op_eqD hr.units) (pe_lst (pa_cons (pe_prop (pv 5) G.W.clW C.pRu C.gRu r2 C.bRu .nil pass0 rfl) (pa_cons (pe_prop (pv 6) G.W.clW C.pRu C.gRu r2 C.bRu .nil pass0 rfl) (pa_cons (pe_prop (pv 7) G.W.clW C.pRu C.gRu r2 C.bRu .nil pass0 rfl) pa_nil)))) (pv 3) (nomark _)) (pe_one (pe_cmpR (Ow.eq_own C.gEq r1 C.nf C.sEq C.fnEq C.bEq pass0) (pe_meth (pv 5) G.W.clW C.mBr C.gBr r6 C.bBr .nil pass0 (pa_cons (pv 6) pa_nil)) (pe_op (Ow.op_own C.gMul r6 C.hc C.sMul C.fnMul C.bMul pass0) (pv 5) (pe_un (Ow.un_own C.gInv r6 C.sInv C.fnInv C.bInv pass0) (pe_meth (pv 5) G.W.clW C.mTu C.gTu r6 C.bTu .nil pass0 (pa_cons (pv 6) pa_nil)))) (nomark _)))))))))))))))))), ?_⟩
    refine ⟨_, rfl, c, rfl, hc, fun sg H1 hsg hc1 b1 => ?_⟩
    refine ⟨3, rfl, by decide, by decide, fun D hD => ?_⟩
    have nDc : D ≠ c := hc1.ne hD
    refine lc_range (lo := 0) (n := 3) (fun i H2 => Cup H2 c ∧ But c H1 H2 ∧ ∃ zs ls, H2 D = some (.lst zs) ∧ RowsL K H2 zs ls ∧ ls.length = i ∧ ∀ l ∈ ls, Good sg l)
      ⟨hc1.same (same_upd hD), But.of (same_upd hD), [], [], upd_same, .nil, rfl, fun l hl => by cases hl⟩ ?_ ?_
    · rintro i H2 hi ⟨hc2, b2, zs, ls, e2, hz, hl, hg⟩
      refine ⟨rfl, iteT (B := False) ?_⟩
      refine ⟨_, rfl, _, rfl, c, sg, 4, 3, rfl, hc2, hsg, by decide, by decide, by decide, fun p H3 l hc3 b3 hp hred hru hll => ?_⟩
      have e3 := b3 D _ nDc e2
      have bD : But D H3 (upd H3 D (.lst (zs ++ [.ref p]))) := But.put
      have hzl : zs.length = ls.length := hz.length
      refine ⟨zs, e3, ?_, ?_, ?_, zs ++ [.ref p], ls ++ [l], upd_same, ?_, by rw [List.length_append, hl]; rfl, ?_⟩
      · rw [hzl, hl]
        exact Nat.lt_of_lt_of_le (show i < 3 by omega) (by decide)
      · obtain ⟨c0, c1, c2, ec⟩ := hc3
        exact ⟨c0, c1, c2, by rw [upd_ne nDc.symm]; exact ec⟩
      · intro b o n e
        rw [upd_ne (ne_of_none e hD)]
        exact b3 _ _ n (b2 _ _ n e)
      · exact each_app ((hz.but hc2 b3).offL e3 bD) (.cons ⟨p, rfl, hp.offL e3 bD⟩ .nil)
      · intro l' hl'
        rcases List.mem_append.mp hl' with h' | h'
        · exact hg l' h'
        · rw [List.mem_singleton.mp h']
          exact ⟨hred, hru, hll⟩
    · rintro H2 ⟨hc2, b2, zs, ls, e2, hz, hl, hg⟩
      have hzl : zs.length = ls.length := hz.length
      refine ⟨_, rfl, D, rfl, ⟨zs, SqL.of e2⟩, fun D2 hD2 => ?_⟩
      refine lc_list (xs := zs) (fun i H3 => Same H2 H3 ∧ ∃ ws, H3 D2 = some (.lst ws) ∧ WordsL K CW sg H3 ws (ls.take i)) ⟨same_upd hD2, [], upd_same, .nil⟩ (fun i H3 _ z => SqL.of (z.1 _ _ e2)) ?_ ?_
      · rintro i x H3 hx ⟨s3, ws, e3, hw⟩
        have hi := (List.getElem?_eq_some_iff.mp hx).1
        have hi' : i < ls.length := by omega
        obtain ⟨p, rfl, hp⟩ : ∃ p, x = V.ref p ∧ TupRow K H2 p ls[i] := hz.zip (x, ls[i]) (List.mem_of_getElem? (i := i) (by rw [List.getElem?_zip_eq_some]; exact ⟨hx, List.getElem?_eq_getElem hi'⟩))
        have hgi := hg ls[i] (List.getElem_mem hi')
        refine ⟨rfl, iteT (B := False) ?_⟩
        refine ⟨_, rfl, _, rfl, ?_⟩
        have hlen4 := hgi.len
        refine row_word (Q := fun y H4 => ∃ acc, H4 D2 = some (.lst acc) ∧ acc.length < sizeLine ∧ (Same H2 (upd H4 D2 (.lst (acc ++ [y]))) ∧ ∃ ws, (upd H4 D2 (.lst (acc ++ [y]))) D2 = some (.lst ws) ∧ WordsL K CW sg (upd H4 D2 (.lst (acc ++ [y]))) ws (ls.take (i + 1)))) G hsg (hp.same s3) hgi.ru (by decide +kernel) (by omega) fun a H4 s4 ha => ?_
        rw [hgi.row] at ha
        have e4 := s4 _ _ e3
        have hwl : ws.length = (ls.take i).length := hw.length
        refine ⟨ws, e4, ?_, same_put (s3.trans s4) hD2, ws ++ [.ref a], upd_same, ?_⟩
        · rw [hwl, List.length_take]
          exact Nat.lt_of_lt_of_le (show _ < 3 by omega) (by decide)
        · rw [List.take_add_one, List.getElem?_eq_getElem hi']
          exact each_app ((hw.same s4).offL e4 But.put) (.cons ⟨a, rfl, ha.offL e4 But.put⟩ .nil)
      · rintro H3 ⟨s3, ws, e3, hw⟩
        rw [List.take_of_length_le (by omega)] at hw
        obtain ⟨l1, l2, l3, rfl⟩ : ∃ l1 l2 l3, ls = [l1, l2, l3] := match ls, hl with | [x, y, z], _ => ⟨x, y, z, rfl⟩
        obtain ⟨a1, a2, a3, rfl, h1, h2, h3⟩ : ∃ a1 a2 a3, ws = [V.ref a1, V.ref a2, V.ref a3] ∧ WordAt K CW H3 a1 sg l1 ∧ WordAt K CW H3 a2 sg l2 ∧ WordAt K CW H3 a3 sg l3 := by
          cases hw with
          | cons r1 t =>
            cases t with
            | cons r2 t =>
              cases t with
              | cons r3 t =>
                cases t
                obtain ⟨a1, rfl, h1⟩ := r1
                obtain ⟨a2, rfl, h2⟩ := r2
                obtain ⟨a3, rfl, h3⟩ := r3
                exact ⟨a1, a2, a3, rfl, h1, h2, h3⟩
        have g1 := hg l1 List.mem_cons_self
        have g2 := hg l2 (List.mem_cons_of_mem _ List.mem_cons_self)
        have g3 := hg l3 (List.mem_cons_of_mem _ (List.mem_cons_of_mem _ List.mem_cons_self))
        have hc3 := hc2.same s3
        refine ⟨D2, _, rfl, SqL.of e3, rfl, _, _, rfl, _, _, rfl, _, _, rfl, rfl, ?_⟩
        refine ⟨_, rfl, c, 13, rfl, hc3, by decide, sm (by decide) (by decide), fun r H4 r0 rm hc4 b4 => ?_⟩
        refine ⟨_, _, rfl, rfl, _, rfl, c, 7, rfl, hc4, by decide, sm (by decide) (by decide), fun r' H5 r0' rm' hc5 b5 => ?_⟩
        refine ⟨_, _, rfl, rfl, _, _, rfl, ?_⟩
        have k1 := (h1.but hc3 b4).but hc4 b5
        have k2 := (h2.but hc3 b4).but hc4 b5
        have k3 := (h3.but hc3 b4).but hc4 b5
        have kz := ((hz.same s3).but hc3 b4).but hc4 b5
        have kD : H5 D = some (.lst zs) := b5 _ _ nDc (b4 _ _ nDc (s3 _ _ e2))
        have bAll : But c H H5 := (((b1.trans b2).trans (But.of s3)).trans b4).trans b5
        have m6 : (r - 6).natAbs ≤ 6 := by omega
        have m3 : (r' - 3).natAbs ≤ 3 := by omega
        have m9 : (r - 6 + (r' - 3)).natAbs ≤ 9 := by omega
        have eσ : (((((((L2.start nRight [V.ref c]).set 1 (some (V.str sg))).set 3 (some (V.ref D))).set 5 (some (V.ref a1))).set 6 (some (V.ref a2))).set 7 (some (V.ref a3))).set 8 (some ((fun i j => V.int (i - j)) r 6))).set 9 (some ((fun i j => V.int (i - j)) r' 3)) =
          [some (.ref c), some (.str sg), none, some (.ref D), none, some (.ref a1), some (.ref a2), some (.ref a3), some (.int (r - 6)), some (.int (r' - 3)), none, none] := rfl
        rw [eσ]
        clear eσ
        generalize r - 6 = many at m6 m9 ⊢
        generalize r' - 3 = more at m3 m9 ⊢
        have w1 : ∀ t10 t11, EvG K CW sg (tVar 5) [some (.ref c), some (.str sg), none, some (.ref D), none, some (.ref a1), some (.ref a2), some (.ref a3), some (.int many), some (.int more), t10, t11] H5 (gOf g1) 4 := fun _ _ => ev_var rfl (by rw [gOf_row]; exact k1) (g1.ok hsg)
        have w2 : ∀ t10 t11, EvG K CW sg (tVar 6) [some (.ref c), some (.str sg), none, some (.ref D), none, some (.ref a1), some (.ref a2), some (.ref a3), some (.int many), some (.int more), t10, t11] H5 (gOf g2) 4 := fun _ _ => ev_var rfl (by rw [gOf_row]; exact k2) (g2.ok hsg)
        have w3 : ∀ t10 t11, EvG K CW sg (tVar 7) [some (.ref c), some (.str sg), none, some (.ref D), none, some (.ref a1), some (.ref a2), some (.ref a3), some (.int many), some (.int more), t10, t11] H5 (gOf g3) 4 := fun _ _ => ev_var rfl (by rw [gOf_row]; exact k3) (g3.ok hsg)
        have i8 : ∀ t10 t11, EvI (tVar 8) [some (.ref c), some (.str sg), none, some (.ref D), none, some (.ref a1), some (.ref a2), some (.ref a3), some (.int many), some (.int more), t10, t11] H5 many := fun _ _ H s Q q => ⟨_, rfl, q⟩
        have i9 : ∀ t10 t11, EvI (tVar 9) [some (.ref c), some (.str sg), none, some (.ref D), none, some (.ref a1), some (.ref a2), some (.ref a3), some (.int many), some (.int more), t10, t11] H5 more := fun _ _ H s Q q => ⟨_, rfl, q⟩
        have i17 : ∀ t10 t11, EvI (tOp (rI0 fun i j => V.int (i + j)) (tVar 8) (tVar 9)) [some (.ref c), some (.str sg), none, some (.ref D), none, some (.ref a1), some (.ref a2), some (.ref a3), some (.int many), some (.int more), t10, t11] H5 (many + more) := fun _ _ H s Q q => ⟨_, rfl, _, rfl, _, _, rfl, rfl, q⟩
        have x0 : ∀ t10 t11, EvR K (tOp (rIxL K) (tVar 3) (tC (.int 0))) [some (.ref c), some (.str sg), none, some (.ref D), none, some (.ref a1), some (.ref a2), some (.ref a3), some (.int many), some (.int more), t10, t11] H5 (rowG (gOf g1)) := fun _ _ => by
          rw [gOf_row]
          exact er_ix (j := 0) rfl kD kz rfl
        have x1 : ∀ t10 t11, EvR K (tOp (rIxL K) (tVar 3) (tC (.int 1))) [some (.ref c), some (.str sg), none, some (.ref D), none, some (.ref a1), some (.ref a2), some (.ref a3), some (.int many), some (.int more), t10, t11] H5 (rowG (gOf g2)) := fun _ _ => by
          rw [gOf_row]
          exact er_ix (j := 1) rfl kD kz rfl
        have o1 := g1.ok hsg
        have o2 := g2.ok hsg
        have o3 := g3.ok hsg
        have kzl : [l1, l2, l3] = [rowG (gOf g1), rowG (gOf g2), rowG (gOf g3)] := by rw [gOf_row, gOf_row, gOf_row]
        rw [kzl] at kz
        clear k1 k2 k3 h1 h2 h3 hw hz
        generalize gOf g1 = x at *
        generalize gOf g2 = y at *
        generalize gOf g3 = z at *
        -- told
        have E1 := ea_cons (ev_runs (ev_mul hsg (w1 none none) (w2 none none) (by decide))) (ea_cons (ev_runs (ev_inv hsg (w1 none none) (by decide))) (ea_cons (ev_runs (ev_power hsg (w1 none none) (i8 none none) (by decide) m6 (by decide) (by decide))) (ea_cons (ev_runs (ev_turned hsg (w1 none none) (w2 none none) (by decide) (by decide) (by decide))) (ea_cons (ev_runs (ev_bracket hsg (w1 none none) (w2 none none) (by decide) (by decide) (by decide))) ea_nil))))
        refine seq_lst E1 (Same.refl _) (by show 5 ≤ 10; decide) fun xs pt H6 s6 npt e6 hx6 => ?_
        clear E1
        have p1 := o1.len'
        have p2 := o2.len'
        have E2 := ea_cons (er_call2 (B := 100000) (f := jointL) (x0 (some (.ref pt)) none) (x1 (some (.ref pt)) none) (by omega) (by omega) o1.pl o2.pl) (ea_cons (er_call1 (f := undo) (x0 (some (.ref pt)) none) (by omega)) (ea_cons (er_rep (x0 (some (.ref pt)) none) (i8 (some (.ref pt)) none) (by omega) o1.pl (by omega)) ea_nil))
        refine seq_lst E2 s6 (by show 3 ≤ 10; decide) fun ys pd H8 s8 npd e8 hy8 => ?_
        clear E2
        have j1 := jointL_len (rowG y) (rowG x)
        have E3 := er_call2 (B := 100000) (f := jointL) (er_call2 (B := 100000) (f := jointL) (x1 (some (.ref pt)) (some (.ref pd))) (x0 (some (.ref pt)) (some (.ref pd))) (by omega) (by omega) o2.pl o1.pl) (er_call1 (f := undo) (x1 (some (.ref pt)) (some (.ref pd))) (by omega)) (by omega) (by rw [undo_len]; omega) (pl_jointL o2.pl o1.pl) (pl_undo o2.pl)
        refine seq_app (i := 11) E3 (s6.trans s8) rfl e8 (by rw [hy8.length]; show 3 ≤ 10; decide) hy8 fun zs' H10 b10 e10 hz10 => ?_
        clear E3
        have npd5 : H5 pd = none := free_none s6 npd
        have s10 : Same H5 H10 := fun b o e => b10 b o (ne_of_none e npd5) (s8 _ _ (s6 _ _ e))
        have nptd : pt ≠ pd := ne_of_none e6 npd
        have e6' : H10 pt = some (.lst xs) := b10 _ _ nptd (s8 _ _ e6)
        have hx10 := (hx6.same s8).offL e8 b10
        have E4 := ea_cons (er_call2 (B := 10000) (f := swapL) (x0 (some (.ref pt)) (some (.ref pd))) (x1 (some (.ref pt)) (some (.ref pd))) (by omega) (by omega) o1.pl o2.pl) ea_nil
        refine ⟨_, rfl, _, rfl, E4 H10 s10 _ fun zs3 H12 s12 hz12 => ?_⟩
        clear E4
        refine ⟨by rw [hz12.length]; exact (by decide : 1 ≤ sizeLine), fun pq npq => ?_⟩
        have s12' := s12.trans (same_upd (o := .lst zs3) npq)
        refine ⟨pd, pq, zs', zs3, rfl, rfl, s12' _ _ e10, upd_same, ?_, fun pr npr => ?_⟩
        · rw [hz10.length, hz12.length]
          exact (by decide : 5 ≤ sizeLine)
        have s13 := same_upd (o := .lst (zs' ++ zs3)) npr
        have ed : ([jointL (rowG x) (rowG y), undo (rowG x), repL (if many > 0 then rowG x else undo (rowG x)) many.natAbs] ++ [jointL (jointL (rowG y) (rowG x)) (undo (rowG y))]) ++ [swapL (rowG x) (rowG y)] =
            [rowG (Wm.m x y), rowG (Wm.i x), rowG (Wm.zp x many), rowG (Wm.tu x y), rowG (Wm.br x y)] := by
          rw [again_row, swapL_row, jointL_row x y, jointL_row y x, undo_row, undo_row, jointL_row]
          rfl
        have hdue := each_app (hz10.same s12') (hz12.same (same_upd (o := .lst zs3) npq))
        rw [ed] at hdue
        have plT : ∀ l ∈ [rowG (Wm.m x y), rowG (Wm.i x), rowG (Wm.zp x many), rowG (Wm.tu x y), rowG (Wm.br x y)], Pl l := by
          intro l hl
          rcases List.mem_cons.mp hl with rfl | hl
          · exact (ok_m o1 o2).pl
          rcases List.mem_cons.mp hl with rfl | hl
          · exact (ok_i o1).pl
          rcases List.mem_cons.mp hl with rfl | hl
          · exact (ok_zp o1 m6).pl
          rcases List.mem_cons.mp hl with rfl | hl
          · exact (ok_tu o1 o2).pl
          rcases List.mem_cons.mp hl with rfl | hl
          · exact (ok_br o1 o2).pl
          cases hl
        refine ⟨.list (rowsDD _), .list (rowsDD _), .lst (SqL.of (s13 _ _ (s12' _ _ e6'))) (rowsDD_all (hx10.same (s12'.trans s13))), .lst (SqL.of upd_same) (rowsDD_all (RowsL.same s13 hdue)), rowsDD_shaped plT, rowsDD_shaped plT, _, rfl, ?_⟩
        rw [rowsDD_self plT]
        refine iteF ?_
        have s14 := (s10.trans s12').trans s13
        generalize upd (upd H12 pq (.lst zs3)) pr (.lst (zs' ++ zs3)) = H14 at s14
        have C0 := (ef_or (ef_ne (ev_mul hsg (ev_mul hsg (w1 (some (.ref pt)) (some (.ref pd))) (w2 (some (.ref pt)) (some (.ref pd))) (by decide)) (w3 (some (.ref pt)) (some (.ref pd))) (by decide)) (ev_mul hsg (w1 (some (.ref pt)) (some (.ref pd))) (ev_mul hsg (w2 (some (.ref pt)) (some (.ref pd))) (w3 (some (.ref pt)) (some (.ref pd))) (by decide)) (by decide)) (Wm.m_assoc _ _ _)) (ef_or (ef_ne (ev_inv hsg (ev_mul hsg (w1 (some (.ref pt)) (some (.ref pd))) (w2 (some (.ref pt)) (some (.ref pd))) (by decide)) (by decide)) (ev_mul hsg (ev_inv hsg (w2 (some (.ref pt)) (some (.ref pd))) (by decide)) (ev_inv hsg (w1 (some (.ref pt)) (some (.ref pd))) (by decide)) (by decide)) (Wm.i_mul _ _)) (ef_or (ef_len (ev_mul hsg (w1 (some (.ref pt)) (some (.ref pd))) (ev_inv hsg (w1 (some (.ref pt)) (some (.ref pd))) (by decide)) (by decide)) (Wm.m_i _)) (ef_ne (ev_inv hsg (ev_inv hsg (w3 (some (.ref pt)) (some (.ref pd))) (by decide)) (by decide)) (w3 (some (.ref pt)) (some (.ref pd))) (Wm.i_i _)))))
        refine seq_if C0 s14 fun H15 s15 => ?_
        clear C0
        have C1 := (ef_or (ef_ne (ev_mul hsg (ev_power hsg (w1 (some (.ref pt)) (some (.ref pd))) (i8 (some (.ref pt)) (some (.ref pd))) (by decide) m6 (by decide) (by decide)) (ev_power hsg (w1 (some (.ref pt)) (some (.ref pd))) (i9 (some (.ref pt)) (some (.ref pd))) (by decide) m3 (by decide) (by decide)) (by decide)) (ev_power hsg (w1 (some (.ref pt)) (some (.ref pd))) (i17 (some (.ref pt)) (some (.ref pd))) (by decide) m9 (by decide) (by decide)) (Wm.zp_add _ _ _)) (ef_ne (ev_turned hsg (ev_mul hsg (w1 (some (.ref pt)) (some (.ref pd))) (w2 (some (.ref pt)) (some (.ref pd))) (by decide)) (w3 (some (.ref pt)) (some (.ref pd))) (by decide) (by decide) (by decide)) (ev_mul hsg (ev_turned hsg (w1 (some (.ref pt)) (some (.ref pd))) (w3 (some (.ref pt)) (some (.ref pd))) (by decide) (by decide) (by decide)) (ev_turned hsg (w2 (some (.ref pt)) (some (.ref pd))) (w3 (some (.ref pt)) (some (.ref pd))) (by decide) (by decide) (by decide)) (by decide)) (Wm.tu_mul _ _ _)))
        refine seq_if C1 (s14.trans s15) fun H16 s16 => ?_
        clear C1
        have C2 := (ef_or (ef_ne (ev_turned hsg (ev_power hsg (w1 (some (.ref pt)) (some (.ref pd))) (i9 (some (.ref pt)) (some (.ref pd))) (by decide) m3 (by decide) (by decide)) (w2 (some (.ref pt)) (some (.ref pd))) (by decide) (by decide) (by decide)) (ev_power hsg (ev_turned hsg (w1 (some (.ref pt)) (some (.ref pd))) (w2 (some (.ref pt)) (some (.ref pd))) (by decide) (by decide) (by decide)) (i9 (some (.ref pt)) (some (.ref pd))) (by decide) m3 (by decide) (by decide)) (Wm.tu_zp _ _ _)) (ef_ne (ev_turned hsg (ev_turned hsg (w1 (some (.ref pt)) (some (.ref pd))) (w2 (some (.ref pt)) (some (.ref pd))) (by decide) (by decide) (by decide)) (w3 (some (.ref pt)) (some (.ref pd))) (by decide) (by decide) (by decide)) (ev_turned hsg (w1 (some (.ref pt)) (some (.ref pd))) (ev_mul hsg (w3 (some (.ref pt)) (some (.ref pd))) (w2 (some (.ref pt)) (some (.ref pd))) (by decide)) (by decide) (by decide) (by decide)) (Wm.tu_tu _ _ _)))
        refine seq_if C2 ((s14.trans s15).trans s16) fun H17 s17 => ?_
        clear C2
        have C3 := (ef_or (ef_ne (ev_turned hsg (ev_bracket hsg (w1 (some (.ref pt)) (some (.ref pd))) (w2 (some (.ref pt)) (some (.ref pd))) (by decide) (by decide) (by decide)) (w3 (some (.ref pt)) (some (.ref pd))) (by decide) (by decide) (by decide)) (ev_bracket hsg (ev_turned hsg (w1 (some (.ref pt)) (some (.ref pd))) (w3 (some (.ref pt)) (some (.ref pd))) (by decide) (by decide) (by decide)) (ev_turned hsg (w2 (some (.ref pt)) (some (.ref pd))) (w3 (some (.ref pt)) (some (.ref pd))) (by decide) (by decide) (by decide)) (by decide) (by decide) (by decide)) (Wm.tu_br _ _ _)) (ef_len (ev_mul hsg (ev_bracket hsg (w1 (some (.ref pt)) (some (.ref pd))) (w2 (some (.ref pt)) (some (.ref pd))) (by decide) (by decide) (by decide)) (ev_bracket hsg (w2 (some (.ref pt)) (some (.ref pd))) (w1 (some (.ref pt)) (some (.ref pd))) (by decide) (by decide) (by decide)) (by decide)) (Wm.br_br _ _)))
        refine seq_if C3 (((s14.trans s15).trans s16).trans s17) fun H18 s18 => ?_
        clear C3
        have E5 := ea_cons (ev_runs (w1 (some (.ref pt)) (some (.ref pd)))) (ea_cons (ev_runs (w2 (some (.ref pt)) (some (.ref pd)))) (ea_cons (ev_runs (w3 (some (.ref pt)) (some (.ref pd)))) ea_nil))
        have s5 := (((s14.trans s15).trans s16).trans s17).trans s18
        have F1 := (ev_bracket hsg (w1 (some (.ref pt)) (some (.ref pd))) (w2 (some (.ref pt)) (some (.ref pd))) (by decide) (by decide) (by decide))
        have F2 := (ev_mul hsg (w1 (some (.ref pt)) (some (.ref pd))) (ev_inv hsg (ev_turned hsg (w1 (some (.ref pt)) (some (.ref pd))) (w2 (some (.ref pt)) (some (.ref pd))) (by decide) (by decide) (by decide)) (by decide)) (by decide))
        refine ret_last (i := 3) E5 s5 rfl kD kz (by show 3 ≤ 10; decide) ?_ F1 F2 (Wm.br_tu _ _) fun H19 s19 => ?_
        · intro l hl
          rcases List.mem_cons.mp hl with rfl | hl
          · exact o1.pl
          rcases List.mem_cons.mp hl with rfl | hl
          · exact o2.pl
          rcases List.mem_cons.mp hl with rfl | hl
          · exact o3.pl
          cases hl
        · exact q H19 (bAll.trans (But.of (s5.trans s19)))
end
end K4

set_option Elab.async false
set_option linter.all false
set_option maxRecDepth 100000
set_option maxHeartbeats 6400000
namespace K4
open PySem L2 Tx Tg Tm
/-! ### readings that give data -/
section
variable (K : PySem.W.Frag)
def EvD (t : TE) (σ : L2.St) (H0 : Hp) (d : PyData) : Prop := ∀ H, Same H0 H → ∀ Q : VK, (∀ v H', Same H H' → (∀ H'', Same H' H'' → Dp K H'' v d) → Q v H') → t σ H Q
def EvDs (t : TA) (σ : L2.St) (H0 : Hp) (ds : List PyData) : Prop := ∀ H, Same H0 H → ∀ Q : List V → Hp → Prop, (∀ xs H', Same H H' → (∀ H'', Same H' H'' → DpAll K H'' xs ds) → Q xs H') → t σ H Q
end
theorem dpAll_len {K : PySem.W.Frag} {H : Hp} : ∀ {xs : List V} {ds : List PyData}, DpAll K H xs ds → xs.length = ds.length
  | _, _, .nil => rfl
  | _, _, .cons _ h => congrArg (· + 1) (dpAll_len h)
section
variable {K : PySem.W.Frag} {CW : Addr} {sg : Str} {σ : L2.St} {H0 H : Hp} {g h : GW} {n k : Nat} {t t1 t2 tn : TE} {m : Int} {l : Row} {ta : TA} {d : PyData} {ds : List PyData}
theorem ei_int (m : Int) : EvI (tC (.int m)) σ H0 m := fun H s Q q => q
theorem ei_neg (m : Int) : EvI (tUn (rU fun i => V.int (-i)) (tC (.int m))) σ H0 (-m) := fun H s Q q => ⟨_, rfl, q⟩
theorem ev_powerX (hsg : Signs sg) (e1 : EvG K CW sg t1 σ H0 g n) (e2 : EvI tn σ H0 m) (hn : n ≤ 200) (hm : m.natAbs ≤ 400) (ok : OkG (Wm.zp g m) k ∧ k ≤ 200) : EvG K CW sg (tMeth CW "power" (spPow K CW) [] E0 t1 (tCons tn tNil)) σ H0 (Wm.zp g m) k := by
  refine ⟨ok.1, fun H s Q q => e1.2 H s _ fun x H1 s1 hx => ?_⟩
  have l1 := e1.1.len'
  have l3 := ok.1.len'
  obtain ⟨dx, px, ex, rx⟩ := id hx
  refine ⟨x, dx, _, rfl, ex, rfl, e2 H1 (s.trans s1) _ ?_⟩
  refine ⟨x, sg, rowG g, m, rfl, hsg, hx, by omega, hm, ?_, fun z H3 s3 hz => ?_⟩
  · rw [powL_row]
    have := ok.2
    omega
  · rw [powL_row] at hz
    exact q z H3 (s1.trans s3) hz
theorem ed_runs (e1 : EvG K CW sg t1 σ H0 g n) (hl : rowG g = l) : EvD K (tProp CW (spRuns K CW) [] E0 t1) σ H0 (.tuple (rowsD l)) := fun H s Q q => by
  subst hl
  refine ev_runs e1 H s _ fun p H1 s1 hp => q _ H1 s1 fun H2 s2 => ?_
  obtain ⟨ys, hy, hr⟩ := hp.same s2
  exact .tup hy (rows_all hr)
theorem ed_short {z : Str} (e1 : EvG K CW sg t1 σ H0 g n) (hs : Sm (rowG g)) (hn : n ≤ 200) (hz : Txt.join "" ((rowG g).map sgn) = z) : EvD K (tMeth CW "shortest" (spShort K CW) [] E0 t1 tNil) σ H0 (.str z) := fun H s Q q => by
  subst hz
  refine e1.2 H s _ fun x H1 s1 hx => ?_
  have l1 := e1.1.len'
  obtain ⟨dx, px, ex, rx⟩ := id hx
  exact ⟨x, dx, _, rfl, ex, rfl, x, sg, rowG g, rfl, hx, hs, by omega, fun H2 s2 => q _ H2 (s1.trans s2) fun H3 _ => .str _⟩
theorem ed_str (z : Str) : EvD K (tC (.str z)) σ H0 (.str z) := fun H s Q q => q _ H (Same.refl H) fun _ _ => .str z
theorem ed_neg (m : Int) : EvD K (tUn (rU fun i => V.int (-i)) (tC (.int m))) σ H0 (.int (-m)) := fun H s Q q => ⟨_, rfl, q _ H (Same.refl H) fun _ _ => .int _⟩
theorem ed_nil : EvDs K tNil σ H0 [] := fun H s Q q => q [] H (Same.refl H) fun _ _ => .nil
theorem ed_cons (e1 : EvD K t1 σ H0 d) (e2 : EvDs K ta σ H0 ds) : EvDs K (tCons t1 ta) σ H0 (d :: ds) := fun H s Q q => e1 H s _ fun v H1 s1 h1 => e2 H1 (s.trans s1) _ fun xs H2 s2 h2 => q _ H2 (s1.trans s2) fun H3 s3 => .cons (h1 H3 (s2.trans s3)) (h2 H3 s3)
theorem ed_tup (e : EvDs K ta σ H0 ds) (hl : ds.length ≤ 10) : EvD K (tTup ta) σ H0 (.tuple ds) := fun H s Q q => e H s _ fun xs H1 s1 h1 =>
  ⟨by rw [dpAll_len (h1 H1 (Same.refl H1))]; exact Nat.le_trans hl (by decide), fun p np => q _ _ (s1.trans (same_upd np)) fun H2 s2 => .tup (SqT.of (s2 _ _ upd_same)) (h1 H2 ((same_upd np).trans s2))⟩
theorem ed_lst (e : EvDs K ta σ H0 ds) (hl : ds.length ≤ 10) : EvD K (tLst ta) σ H0 (.list ds) := fun H s Q q => e H s _ fun xs H1 s1 h1 =>
  ⟨by rw [dpAll_len (h1 H1 (Same.refl H1))]; exact Nat.le_trans hl (by decide), fun p np => q _ _ (s1.trans (same_upd np)) fun H2 s2 => .lst (SqL.of (s2 _ _ upd_same)) (h1 H2 ((same_upd np).trans s2))⟩
theorem seq_asgD {i : Nat} {u : TS} {D : Ends} (e : EvD K t σ H0 d) (s : Same H0 H) (q : ∀ v H2, Same H H2 → (∀ H3, Same H2 H3 → Dp K H3 v d) → u D (σ.set i (some v)) H2) : tSeq (tAsg t (gName i)) u D σ H := e H s _ fun v H1 s1 h1 => q v H1 s1 h1
theorem ed_var {i : Nat} {v : V} (hi : σ[i]? = some (some v)) (hv : ∀ H3, Same H0 H3 → Dp K H3 v d) : EvD K (tVar i) σ H0 d := fun H s Q q => ⟨_, hi, q v H (Same.refl H) fun H2 s2 => hv H2 (s.trans s2)⟩
theorem ret_and {t3 t4 : TE} {d2 : PyData} {D : Ends} (s : Same H0 H) (e1 : EvD K t1 σ H0 d) (e2 : EvD K t2 σ H0 d) (e3 : EvD K t3 σ H0 d2) (e4 : EvD K t4 σ H0 d2) (h1 : SeqAt.shaped d = true) (h2 : PyData.eqv d d = true) (h3 : SeqAt.shaped d2 = true) (h4 : PyData.eqv d2 d2 = true)
    (q : ∀ H', D.rt (.bl true) H') : tRet (tAndV (tOp (rEqD K) t1 t2) (tOp (rEqD K) t3 t4)) D σ H := by
  refine e1 H s _ fun v1 H1 s1 hv1 => e2 H1 (s.trans s1) _ fun v2 H2 s2 hv2 => ?_
  refine ⟨d, d, hv1 _ s2, hv2 _ (Same.refl _), h1, h1, true, by rw [h2], ?_⟩
  refine iteT ?_
  refine e3 H2 ((s.trans s1).trans s2) _ fun v3 H3 s3 hv3 => e4 H3 (((s.trans s1).trans s2).trans s3) _ fun v4 H4 s4 hv4 => ?_
  refine ⟨d2, d2, hv3 _ s4, hv4 _ (Same.refl _), h3, h3, ?_⟩
  rw [h4]
  exact q H4
end
/-- what else the law calls -/
structure Sh4 (P : Program) (w : World) (K : PySem.W.Frag) (mg : Str → Option Value) (base : Heap) (CW : Addr) where
  (fSh pO gO : Addr)
  (dSh : FuncData)
  (mc : Value)
  gSh : FnOk P w K mg base CX0 3 fSh dSh ["self"] (spShort K CW)
  bSh : Binds K dSh ["self"] []
  mSh : Meth K CW "shortest" fSh
  rd : ClX.CRead K CW mc
  cm : ClX.CMet K CW mc "of" pO gO
  gOf : FnR P w K mg base CX0 6 gO (spOf K CW)
def gA : GW := ⟨[("a", 1)], by show (1 : Int) ≠ 0; decide⟩
def gB : GW := ⟨[("b", 1)], by show (1 : Int) ≠ 0; decide⟩
theorem okA : OkG gA 1 := ⟨fun p hp => by
  obtain rfl := List.mem_singleton.mp hp
  decide +kernel, Nat.le_refl 1⟩
theorem okB : OkG gB 1 := ⟨fun p hp => by
  obtain rfl := List.mem_singleton.mp hp
  decide +kernel, Nat.le_refl 1⟩
theorem rA3 : rowG (Wm.zp gA (-3)) = [(("a" : Str), (-3 : Int))] := by decide +kernel
theorem rA400 : rowG (Wm.zp gA (-400)) = [(("a" : Str), (-400 : Int))] := by decide +kernel
theorem rAB2 : rowG (Wm.zp (Wm.m gA gB) 2) = [(("a" : Str), (1 : Int)), (("b" : Str), (1 : Int)), (("a" : Str), (1 : Int)), (("b" : Str), (1 : Int))] := by decide +kernel
theorem rAB0 : rowG (Wm.zp (Wm.m gA gB) 0) = ([] : Row) := by decide +kernel
theorem rBr : rowG (Wm.br gA gB) = [(("a" : Str), (1 : Int)), (("b" : Str), (1 : Int)), (("a" : Str), (-1 : Int)), (("b" : Str), (-1 : Int))] := by decide +kernel
theorem rTu : rowG (Wm.tu gB gA) = [(("a" : Str), (1 : Int)), (("b" : Str), (1 : Int)), (("a" : Str), (-1 : Int))] := by decide +kernel
theorem sm_of {l : Row} (h : (l.all fun p => (decide (p.1 = "a") || decide (p.1 = "b")) && (decide (p.2 = 1) || decide (p.2 = -1))) = true) : Sm l := fun p hp => by
  have := List.all_eq_true.mp h p hp
  simp only [Bool.and_eq_true, Bool.or_eq_true, decide_eq_true_eq] at this
  exact this
theorem pl_of {l : Row} (h : (l.all fun p => (cds p.1).all fun c => decide (c < 128)) = true) : Pl l := fun p hp c hc => of_decide_eq_true (List.all_eq_true.mp (List.all_eq_true.mp h p hp) c hc)
theorem okOf {g : GW} {n : Nat} (l : Row) (e : rowG g = l) (h : (l.all fun p => (cds p.1).all fun c => decide (c < 128)) = true) (hn : l.length ≤ n) : OkG g n := ⟨by rw [e]; exact pl_of h, by rw [← rowG_len, e]; exact hn⟩
theorem okP3 : OkG (Wm.zp gA (-3)) 1 ∧ 1 ≤ 200 := ⟨okOf _ rA3 (by decide +kernel) (by decide), by decide⟩
theorem okP400 : OkG (Wm.zp gA (-400)) 1 ∧ 1 ≤ 200 := ⟨okOf _ rA400 (by decide +kernel) (by decide), by decide⟩
theorem okP2 : OkG (Wm.zp (Wm.m gA gB) 2) 4 ∧ 4 ≤ 200 := ⟨okOf _ rAB2 (by decide +kernel) (by decide), by decide⟩
theorem okP0 : OkG (Wm.zp (Wm.m gA gB) 0) 0 ∧ 0 ≤ 200 := ⟨okOf _ rAB0 (by decide +kernel) (by decide), by decide⟩
theorem smBr : Sm (rowG (Wm.br gA gB)) := by rw [rBr]; exact sm_of (by decide +kernel)
theorem smTu : Sm (rowG (Wm.tu gB gA)) := by rw [rTu]; exact sm_of (by decide +kernel)
theorem smP2 : Sm (rowG (Wm.zp (Wm.m gA gB) 2)) := by rw [rAB2]; exact sm_of (by decide +kernel)
theorem jBr : Txt.join "" ((rowG (Wm.br gA gB)).map sgn) = "abAB" := by rw [rBr]; decide +kernel
theorem jTu : Txt.join "" ((rowG (Wm.tu gB gA)).map sgn) = "abA" := by rw [rTu]; decide +kernel
theorem jP2 : Txt.join "" ((rowG (Wm.zp (Wm.m gA gB) 2)).map sgn) = "abab" := by rw [rAB2]; decide +kernel
abbrev dTold : List PyData := [.str "abAB", .str "abA", .tuple (rowsD [(("a" : Str), (-3 : Int))]), .str "abab", .tuple (rowsD [])]
theorem told_sh : SeqAt.shaped (.list dTold) = true := by decide +kernel
theorem told_eq : PyData.eqv (.list dTold) (.list dTold) = true := by decide +kernel
theorem p400_sh : SeqAt.shaped (.tuple (rowsD [(("a" : Str), (-400 : Int))])) = true := by decide +kernel
theorem p400_eq : PyData.eqv (.tuple (rowsD [(("a" : Str), (-400 : Int))])) (.tuple (rowsD [(("a" : Str), (-400 : Int))])) = true := by decide +kernel
abbrev nLaw : List Str := ["_law_script", "_law_at", "_law_a", "_law_b", "_law_told"]
def spLaw (K : PySem.W.Frag) : Sp := fun vs H Q _ => ∃ (a : Addr) (ns : List Int), vs = [.ref a] ∧ SqL K H a (ns.map V.int) ∧ ns.length ≤ 63 ∧ ∀ H', Q (.bl true) H'
theorem scLaw : FnScope nLaw ["_law_script"] (defScope sLaw) := ⟨rfl, rfl, rfl, by decide +kernel, rfl, by decide +kernel, by decide +kernel⟩
section
variable {P : Program} {w : World} {K : PySem.W.Frag} {mg : Str → Option Value} {base : Heap}
theorem ok_law {CM CW fMI fWI f fCu fRi : Addr} {dMI dWI fd dCu dRi : FuncData} (F : Fun K "law" "law" sLaw f fd) (T : Txt K mg) (G : Makes4 P w K mg base CM CW fMI fWI dMI dWI) (C : Cl4 P w K mg base CW) (S : Sh4 P w K mg base CW)
    (GCu : FnOk P w K mg base CX0 1 fCu dCu ["_law_script", "_law_at"] (spCup K)) (GR : FnOk P w K mg base CX0 7 fRi dRi ["_law_cup_here"] spRight) (DCu : Df K mg "_law_cup" sCup ["_law_script", "_law_at"] fCu dCu) (DRi : Df K mg "_law_right" sRight ["_law_cup_here"] fRi dRi) :
    Kept P w K mg base CX0 8 f fd ["_law_script"] (spLaw K) := by
  refine Kept.fn F scLaw (fun vs H Q E h => ?_) (fun cdv A outer s H vs Q E hr still h => ?_)
  · obtain ⟨a, ns, rfl, _⟩ := h
    rfl
  · obtain ⟨a, ns, rfl, hS, hlen, q⟩ := h
    have r1 : Room 1 _ := hr.mono (by decide)
    have r2 : Room 2 _ := hr.mono (by decide)
    have r3 : Room 3 _ := hr.mono (by decide)
    have r6 : Room 6 _ := hr.mono (by decide)
    refine ⟨_, (pss_cons (ps_for PassesOwn.never rfl (pi_range1 rfl T.range (pa_cons (pe_callB (call_max2 rfl) (by rfl) T.max (by decide +kernel) (pa_cons pe_int (pa_cons (pe_callB (call_min2 rfl) (by rfl) T.min (by decide +kernel) (pa_cons pe_int (pa_cons
          (pe_callB call_len (by rfl) T.len PySem.boot_len (pa_cons (pv 0) pa_nil)) pa_nil))) pa_nil))) pa_nil)) (pg_name (i := 1) scLaw.nd rfl (Or.inl rfl))
        (pss_one (ps_if (pt_not (pt_val (pe_call GR hr (by rfl) DRi.m DRi.F.kp DRi.b .nil pass0 (pa_cons (pe_call GCu r1 (by rfl) DCu.m DCu.F.kp DCu.b .nil pass0 (pa_cons (pv 0) (pa_cons (pv 1) pa_nil))) pa_nil)))) (pss_one (ps_ret pe_bl)) pss_nil)))
      (pss_cons (ps_par (i := 2) (j := 3) (by rfl) scLaw.nd rfl rfl (by decide) rfl rfl (pa_cons (ClX.pe_cmeth (pe_glob (v := .ref CW) (by rfl) G.W.gW rfl) S.rd S.cm S.gOf r6 pass0 (pa_cons pe_str (pa_cons pe_str pa_nil))) (pa_cons (ClX.pe_cmeth (pe_glob (v := .ref CW) (by rfl) G.W.gW rfl) S.rd S.cm S.gOf r6 pass0 (pa_cons pe_str (pa_cons pe_str pa_nil))) pa_nil)) (by rfl))
      (pss_cons (ps_set (i := 4) scLaw.nd rfl (Or.inl rfl) (pe_lst (pa_cons (pe_meth0 (pe_meth (pv 2) G.W.clW C.mBr C.gBr r6 C.bBr .nil pass0 (pa_cons (pv 3) pa_nil)) G.W.clW S.mSh S.gSh r3 S.bSh .nil pass0) (pa_cons (pe_meth0 (pe_meth (pv 3) G.W.clW C.mTu C.gTu r6 C.bTu .nil pass0 (pa_cons (pv 2) pa_nil)) G.W.clW S.mSh S.gSh r3 S.bSh .nil pass0) (pa_cons (pe_prop (pe_meth (pv 2) G.W.clW C.mPow C.gPow r6 C.bPow .nil pass0 (pa_cons (pe_un un_neg pe_int) pa_nil)) G.W.clW C.pRu C.gRu r2 C.bRu .nil pass0 rfl) (pa_cons (pe_meth0 (pe_meth (pe_op (Ow.op_own C.gMul r6 C.hc C.sMul C.fnMul C.bMul pass0) (pv 2) (pv 3)) G.W.clW C.mPow C.gPow r6 C.bPow .nil pass0 (pa_cons pe_int pa_nil)) G.W.clW S.mSh S.gSh r3 S.bSh .nil pass0) (pa_cons (pe_prop (pe_meth (pe_op (Ow.op_own C.gMul r6 C.hc C.sMul C.fnMul C.bMul pass0) (pv 2) (pv 3)) G.W.clW C.mPow C.gPow r6 C.bPow .nil pass0 (pa_cons pe_int pa_nil)) G.W.clW C.pRu C.gRu r2 C.bRu .nil pass0 rfl) pa_nil)))))))
      (pss_one (ps_ret (pe_and (pe_cmpR (op_eqD hr.units) (pv 4) (pe_lst (pa_cons pe_str (pa_cons pe_str (pa_cons (pe_tup (pa_cons (pe_tup (pa_cons pe_str (pa_cons (pe_un un_neg pe_int) pa_nil))) pa_nil)) (pa_cons pe_str (pa_cons (pe_tup pa_nil) pa_nil)))))) (nomark _)) (pe_one (pe_cmpR (op_eqD hr.units) (pe_prop (pe_meth (pv 2) G.W.clW C.mPow C.gPow r6 C.bPow .nil pass0 (pa_cons (pe_un un_neg pe_int) pa_nil)) G.W.clW C.pRu C.gRu r2 C.bRu .nil pass0 rfl) (pe_tup (pa_cons (pe_tup (pa_cons pe_str (pa_cons (pe_un un_neg pe_int) pa_nil))) pa_nil)) (nomark _))))))))), ?_⟩
    have bj : ∀ n : Int, 0 ≤ n → n ≤ 63 → (-(2 ^ 62) ≤ (if (if n < 2 then n else 2) > 1 then (if n < 2 then n else 2) else 1) ∧ (if (if n < 2 then n else 2) > 1 then (if n < 2 then n else 2) else 1) < 2 ^ 62) ∧ (if (if n < 2 then n else 2) > 1 then (if n < 2 then n else 2) else (1 : Int)).toNat ≤ 2 := by
      intro n h0 h1
      repeat' split
      all_goals omega
    obtain ⟨⟨bj1, bj2⟩, bj3⟩ := bj ns.length (by omega) (by omega)
    refine ⟨_, rfl, _, ns.length, rfl, .inl ⟨_, hS, by rw [List.length_map]⟩, _, _, rfl, _, _, rfl, _, rfl, bj1, bj2, for_range (n := _) (fun i σ H1 => ∃ u1 : Option V, σ = [some (.ref a), u1, none, none, none] ∧ Same H H1)
      ⟨none, rfl, Same.refl H⟩ ?_ ?_⟩
    · rintro k σ H1 hk ⟨u1, rfl, s1⟩
      have hk3 : k < 2 := Nat.lt_of_lt_of_le hk bj3
      refine ⟨_, rfl, _, rfl, a, ns, k, congrArg (fun z => [V.ref a, V.int z]) (Int.zero_add _), s1.seq hS, hlen, by omega, fun c H2 nc s2 hc2 => ?_⟩
      refine ⟨c, rfl, hc2, fun H3 b3 => ⟨_, rfl, iteF ?_⟩⟩
      exact ⟨_, rfl, fun b o e => b3 _ _ (ne_of_none (s1 _ _ e) nc) (s2 _ _ (s1 _ _ e))⟩
    · rintro σ H1 ⟨u1, rfl, s1⟩
      have sab : Signs "ab" := .inl rfl
      refine ⟨rfl, "a", rfl, .inl rfl, fun xa H2 s2 ha => ?_⟩
      refine ⟨rfl, "b", rfl, .inr rfl, fun xb H3 s3 hb => ?_⟩
      refine ⟨_, _, rfl, ?_⟩
      have wa : ∀ t4, EvG K CW "ab" (tVar 2) [some (.ref a), u1, some (.ref xa), some (.ref xb), t4] H3 gA 1 := fun _ => ev_var rfl (ha.same s3) okA
      have wb : ∀ t4, EvG K CW "ab" (tVar 3) [some (.ref a), u1, some (.ref xa), some (.ref xb), t4] H3 gB 1 := fun _ => ev_var rfl hb okB
      have E1 := ed_lst (ed_cons (ed_short (ev_bracket sab (wa none) (wb none) (by decide) (by decide) (by decide)) smBr (by decide) jBr) (ed_cons (ed_short (ev_turned sab (wb none) (wa none) (by decide) (by decide) (by decide)) smTu (by decide) jTu) (ed_cons (ed_runs (ev_powerX sab (wa none) (ei_neg 3) (by decide) (by decide) okP3) rA3) (ed_cons (ed_short (ev_powerX sab (ev_mul sab (wa none) (wb none) (by decide)) (ei_int 2) (by decide) (by decide) okP2) smP2 (by decide) jP2) (ed_cons (ed_runs (ev_powerX sab (ev_mul sab (wa none) (wb none) (by decide)) (ei_int 0) (by decide) (by decide) okP0) rAB0) (ed_nil (K := K))))))) (by decide +kernel)
      refine seq_asgD (i := 4) E1 (Same.refl _) fun v H4 s4 hv => ?_
      clear E1
      have L1 := ed_lst (σ := [some (.ref a), u1, some (.ref xa), some (.ref xb), some v]) (H0 := H4) (ed_cons (K := K) (ed_str "abAB") (ed_cons (ed_str "abA") (ed_cons (ed_tup (ed_cons (ed_tup (ed_cons (ed_str "a") (ed_cons (ed_neg 3) ed_nil)) (by decide)) ed_nil) (by decide)) (ed_cons (ed_str "abab") (ed_cons (ed_tup ed_nil (by decide)) ed_nil))))) (by decide)
      have L2 := ed_tup (σ := [some (.ref a), u1, some (.ref xa), some (.ref xb), some v]) (H0 := H4) (ed_cons (K := K) (ed_tup (ed_cons (ed_str "a") (ed_cons (ed_neg 400) ed_nil)) (by decide)) ed_nil) (by decide)
      have R1 := ed_runs (K := K) (EvG.later s4 (ev_powerX sab (wa (some v)) (ei_neg 400) (by decide) (by decide) okP400)) rA400
      exact ret_and (Same.refl H4) (ed_var rfl hv) L1 R1 L2 told_sh told_eq p400_sh p400_eq fun H5 => q H5
end
end K4

set_option Elab.async false
set_option linter.all false
set_option maxRecDepth 100000
set_option maxHeartbeats 6400000
namespace K4
open PySem L2 Tx Tg Tm
theorem df_mk {K : PySem.W.Frag} {h : Heap} {mg : Str → Option Value} {x : Str} {st : Stmt} {ps : List Str} {f : Addr} {oc kV dc pm cd ct : Value} {od an : Option Addr} {sl : Array (Option Value)} (X : K.In h) (G : h.Ns mainGlobals mg)
    (a : PySem.W.nsIn K mainGlobals x = some (some (.ref f))) (l : K.lookup f = some ⟨oc, od, .func (PySem.W.fnOf x x (defArgs st) (defBody st) (defScope st) .none kV dc pm an cd ct), sl⟩)
    (c : PySem.W.codeIn K cd x = true) (k : PySem.W.keepIn K (.ref f) = true)
    (hb : ∀ (kV doc pm : Value) (an : Option Addr) (cdv ct : Value) (us : List Value), us.length = ps.length → bindArgs (PySem.W.fnOf x x (defArgs st) (defBody st) (defScope st) .none kV doc pm an cdv ct) ⟨us, []⟩ = pure (ps.zip us)) :
    Df K mg x st ps f (PySem.W.fnOf x x (defArgs st) (defBody st) (defScope st) .none kV dc pm an cd ct) :=
  have F := fun_mk (st := st) l c k
  ⟨F, PySem.W.mg_of X G a, F.binds hb⟩
theorem kit_self {K : PySem.W.Frag} {C : Addr} : PySem.W.kitOne K (.ref C) (.ref C) = some true := by
  unfold PySem.W.kitOne
  rw [if_pos (beq_self_eq_true _)]
theorem all_mk {l : PySem.W.OpenLaw} {w : World} {K : PySem.W.Frag} {h : Heap} {mg : Str → Option Value} {fa CM CW : Addr} (X : K.In h) (G : h.Ns mainGlobals mg) (hfa : mg "law" = some (.ref fa))
    (hx : ∃ n t, n = 10 ^ 200 ∧ mg "LEAST_TOO_LONG" = some (.int n t))
    {f1 : Addr} {od1 an1 : Option Addr} {sl1 : Array (Option Value)} {oc1 kV1 dc1 pm1 cd1 ct1 : Value}
    (a1 : PySem.W.nsIn K mainGlobals "is_integer" = some (some (.ref f1))) (l1 : K.lookup f1 = some ⟨oc1, od1, .func (PySem.W.fnOf "is_integer" "is_integer" (defArgs sInt) (defBody sInt) (defScope sInt) .none kV1 dc1 pm1 an1 cd1 ct1), sl1⟩) (c1 : PySem.W.codeIn K cd1 "is_integer" = true) (k1 : PySem.W.keepIn K (.ref f1) = true)
    {f2 : Addr} {od2 an2 : Option Addr} {sl2 : Array (Option Value)} {oc2 kV2 dc2 pm2 cd2 ct2 : Value}
    (a2 : PySem.W.nsIn K mainGlobals "is_letters" = some (some (.ref f2))) (l2 : K.lookup f2 = some ⟨oc2, od2, .func (PySem.W.fnOf "is_letters" "is_letters" (defArgs sLetters) (defBody sLetters) (defScope sLetters) .none kV2 dc2 pm2 an2 cd2 ct2), sl2⟩) (c2 : PySem.W.codeIn K cd2 "is_letters" = true) (k2 : PySem.W.keepIn K (.ref f2) = true)
    {f3 : Addr} {od3 an3 : Option Addr} {sl3 : Array (Option Value)} {oc3 kV3 dc3 pm3 cd3 ct3 : Value}
    (a3 : PySem.W.nsIn K mainGlobals "is_signed" = some (some (.ref f3))) (l3 : K.lookup f3 = some ⟨oc3, od3, .func (PySem.W.fnOf "is_signed" "is_signed" (defArgs sSigned) (defBody sSigned) (defScope sSigned) .none kV3 dc3 pm3 an3 cd3 ct3), sl3⟩) (c3 : PySem.W.codeIn K cd3 "is_signed" = true) (k3 : PySem.W.keepIn K (.ref f3) = true)
    {f4 : Addr} {od4 an4 : Option Addr} {sl4 : Array (Option Value)} {oc4 kV4 dc4 pm4 cd4 ct4 : Value}
    (a4 : PySem.W.nsIn K mainGlobals "check_letters" = some (some (.ref f4))) (l4 : K.lookup f4 = some ⟨oc4, od4, .func (PySem.W.fnOf "check_letters" "check_letters" (defArgs sCheck) (defBody sCheck) (defScope sCheck) .none kV4 dc4 pm4 an4 cd4 ct4), sl4⟩) (c4 : PySem.W.codeIn K cd4 "check_letters" = true) (k4 : PySem.W.keepIn K (.ref f4) = true)
    {f5 : Addr} {od5 an5 : Option Addr} {sl5 : Array (Option Value)} {oc5 kV5 dc5 pm5 cd5 ct5 : Value}
    (a5 : PySem.W.nsIn K mainGlobals "has_only" = some (some (.ref f5))) (l5 : K.lookup f5 = some ⟨oc5, od5, .func (PySem.W.fnOf "has_only" "has_only" (defArgs sHas) (defBody sHas) (defScope sHas) .none kV5 dc5 pm5 an5 cd5 ct5), sl5⟩) (c5 : PySem.W.codeIn K cd5 "has_only" = true) (k5 : PySem.W.keepIn K (.ref f5) = true)
    {f6 : Addr} {od6 an6 : Option Addr} {sl6 : Array (Option Value)} {oc6 kV6 dc6 pm6 cd6 ct6 : Value}
    (a6 : PySem.W.nsIn K mainGlobals "check_signed" = some (some (.ref f6))) (l6 : K.lookup f6 = some ⟨oc6, od6, .func (PySem.W.fnOf "check_signed" "check_signed" (defArgs sCheckSigned) (defBody sCheckSigned) (defScope sCheckSigned) .none kV6 dc6 pm6 an6 cd6 ct6), sl6⟩) (c6 : PySem.W.codeIn K cd6 "check_signed" = true) (k6 : PySem.W.keepIn K (.ref f6) = true)
    {f7 : Addr} {od7 an7 : Option Addr} {sl7 : Array (Option Value)} {oc7 kV7 dc7 pm7 cd7 ct7 : Value}
    (a7 : PySem.W.nsIn K mainGlobals "check_between" = some (some (.ref f7))) (l7 : K.lookup f7 = some ⟨oc7, od7, .func (PySem.W.fnOf "check_between" "check_between" (defArgs sBetween) (defBody sBetween) (defScope sBetween) .none kV7 dc7 pm7 an7 cd7 ct7), sl7⟩) (c7 : PySem.W.codeIn K cd7 "check_between" = true) (k7 : PySem.W.keepIn K (.ref f7) = true)
    {f8 : Addr} {od8 an8 : Option Addr} {sl8 : Array (Option Value)} {oc8 kV8 dc8 pm8 cd8 ct8 : Value}
    (a8 : PySem.W.nsIn K mainGlobals "check_most" = some (some (.ref f8))) (l8 : K.lookup f8 = some ⟨oc8, od8, .func (PySem.W.fnOf "check_most" "check_most" (defArgs sMost) (defBody sMost) (defScope sMost) .none kV8 dc8 pm8 an8 cd8 ct8), sl8⟩) (c8 : PySem.W.codeIn K cd8 "check_most" = true) (k8 : PySem.W.keepIn K (.ref f8) = true)
    {f9 : Addr} {od9 an9 : Option Addr} {sl9 : Array (Option Value)} {oc9 kV9 dc9 pm9 cd9 ct9 : Value}
    (a9 : PySem.W.nsIn K mainGlobals "joined_runs" = some (some (.ref f9))) (l9 : K.lookup f9 = some ⟨oc9, od9, .func (PySem.W.fnOf "joined_runs" "joined_runs" (defArgs sJoin) (defBody sJoin) (defScope sJoin) .none kV9 dc9 pm9 an9 cd9 ct9), sl9⟩) (c9 : PySem.W.codeIn K cd9 "joined_runs" = true) (k9 : PySem.W.keepIn K (.ref f9) = true)
    {f10 : Addr} {od10 an10 : Option Addr} {sl10 : Array (Option Value)} {oc10 kV10 dc10 pm10 cd10 ct10 : Value}
    (a10 : PySem.W.nsIn K mainGlobals "undone_runs" = some (some (.ref f10))) (l10 : K.lookup f10 = some ⟨oc10, od10, .func (PySem.W.fnOf "undone_runs" "undone_runs" (defArgs sUndo) (defBody sUndo) (defScope sUndo) .none kV10 dc10 pm10 an10 cd10 ct10), sl10⟩) (c10 : PySem.W.codeIn K cd10 "undone_runs" = true) (k10 : PySem.W.keepIn K (.ref f10) = true)
    {f11 : Addr} {od11 an11 : Option Addr} {sl11 : Array (Option Value)} {oc11 kV11 dc11 pm11 cd11 ct11 : Value}
    (a11 : PySem.W.nsIn K mainGlobals "bracket_runs" = some (some (.ref f11))) (l11 : K.lookup f11 = some ⟨oc11, od11, .func (PySem.W.fnOf "bracket_runs" "bracket_runs" (defArgs sBracket) (defBody sBracket) (defScope sBracket) .none kV11 dc11 pm11 an11 cd11 ct11), sl11⟩) (c11 : PySem.W.codeIn K cd11 "bracket_runs" = true) (k11 : PySem.W.keepIn K (.ref f11) = true)
    {f12 : Addr} {od12 an12 : Option Addr} {sl12 : Array (Option Value)} {oc12 kV12 dc12 pm12 cd12 ct12 : Value}
    (a12 : PySem.W.nsIn K mainGlobals "runs_of_signs" = some (some (.ref f12))) (l12 : K.lookup f12 = some ⟨oc12, od12, .func (PySem.W.fnOf "runs_of_signs" "runs_of_signs" (defArgs sOfSigns) (defBody sOfSigns) (defScope sOfSigns) .none kV12 dc12 pm12 an12 cd12 ct12), sl12⟩) (c12 : PySem.W.codeIn K cd12 "runs_of_signs" = true) (k12 : PySem.W.keepIn K (.ref f12) = true)
    {f13 : Addr} {od13 an13 : Option Addr} {sl13 : Array (Option Value)} {oc13 kV13 dc13 pm13 cd13 ct13 : Value}
    (a13 : PySem.W.nsIn K mainGlobals "signs_of_runs" = some (some (.ref f13))) (l13 : K.lookup f13 = some ⟨oc13, od13, .func (PySem.W.fnOf "signs_of_runs" "signs_of_runs" (defArgs sSignsOf) (defBody sSignsOf) (defScope sSignsOf) .none kV13 dc13 pm13 an13 cd13 ct13), sl13⟩) (c13 : PySem.W.codeIn K cd13 "signs_of_runs" = true) (k13 : PySem.W.keepIn K (.ref f13) = true)
    {f14 : Addr} {od14 an14 : Option Addr} {sl14 : Array (Option Value)} {oc14 kV14 dc14 pm14 cd14 ct14 : Value}
    (a14 : PySem.W.nsIn K mainGlobals "check_word" = some (some (.ref f14))) (l14 : K.lookup f14 = some ⟨oc14, od14, .func (PySem.W.fnOf "check_word" "check_word" (defArgs sCheckWord) (defBody sCheckWord) (defScope sCheckWord) .none kV14 dc14 pm14 an14 cd14 ct14), sl14⟩) (c14 : PySem.W.codeIn K cd14 "check_word" = true) (k14 : PySem.W.keepIn K (.ref f14) = true)
    {f15 : Addr} {od15 an15 : Option Addr} {sl15 : Array (Option Value)} {oc15 kV15 dc15 pm15 cd15 ct15 : Value}
    (a15 : PySem.W.nsIn K mainGlobals "is_row_of_runs" = some (some (.ref f15))) (l15 : K.lookup f15 = some ⟨oc15, od15, .func (PySem.W.fnOf "is_row_of_runs" "is_row_of_runs" (defArgs sIsRow) (defBody sIsRow) (defScope sIsRow) .none kV15 dc15 pm15 an15 cd15 ct15), sl15⟩) (c15 : PySem.W.codeIn K cd15 "is_row_of_runs" = true) (k15 : PySem.W.keepIn K (.ref f15) = true)
    {f16 : Addr} {od16 an16 : Option Addr} {sl16 : Array (Option Value)} {oc16 kV16 dc16 pm16 cd16 ct16 : Value}
    (a16 : PySem.W.nsIn K mainGlobals "is_run" = some (some (.ref f16))) (l16 : K.lookup f16 = some ⟨oc16, od16, .func (PySem.W.fnOf "is_run" "is_run" (defArgs sIsRun) (defBody sIsRun) (defScope sIsRun) .none kV16 dc16 pm16 an16 cd16 ct16), sl16⟩) (c16 : PySem.W.codeIn K cd16 "is_run" = true) (k16 : PySem.W.keepIn K (.ref f16) = true)
    {f17 : Addr} {od17 an17 : Option Addr} {sl17 : Array (Option Value)} {oc17 kV17 dc17 pm17 cd17 ct17 : Value}
    (a17 : PySem.W.nsIn K mainGlobals "_law_cup" = some (some (.ref f17))) (l17 : K.lookup f17 = some ⟨oc17, od17, .func (PySem.W.fnOf "_law_cup" "_law_cup" (defArgs sCup) (defBody sCup) (defScope sCup) .none kV17 dc17 pm17 an17 cd17 ct17), sl17⟩) (c17 : PySem.W.codeIn K cd17 "_law_cup" = true) (k17 : PySem.W.keepIn K (.ref f17) = true)
    {f18 : Addr} {od18 an18 : Option Addr} {sl18 : Array (Option Value)} {oc18 kV18 dc18 pm18 cd18 ct18 : Value}
    (a18 : PySem.W.nsIn K mainGlobals "_law_bit" = some (some (.ref f18))) (l18 : K.lookup f18 = some ⟨oc18, od18, .func (PySem.W.fnOf "_law_bit" "_law_bit" (defArgs sBit) (defBody sBit) (defScope sBit) .none kV18 dc18 pm18 an18 cd18 ct18), sl18⟩) (c18 : PySem.W.codeIn K cd18 "_law_bit" = true) (k18 : PySem.W.keepIn K (.ref f18) = true)
    {f19 : Addr} {od19 an19 : Option Addr} {sl19 : Array (Option Value)} {oc19 kV19 dc19 pm19 cd19 ct19 : Value}
    (a19 : PySem.W.nsIn K mainGlobals "_law_pick" = some (some (.ref f19))) (l19 : K.lookup f19 = some ⟨oc19, od19, .func (PySem.W.fnOf "_law_pick" "_law_pick" (defArgs sPick) (defBody sPick) (defScope sPick) .none kV19 dc19 pm19 an19 cd19 ct19), sl19⟩) (c19 : PySem.W.codeIn K cd19 "_law_pick" = true) (k19 : PySem.W.keepIn K (.ref f19) = true)
    {f20 : Addr} {od20 an20 : Option Addr} {sl20 : Array (Option Value)} {oc20 kV20 dc20 pm20 cd20 ct20 : Value}
    (a20 : PySem.W.nsIn K mainGlobals "_law_signs" = some (some (.ref f20))) (l20 : K.lookup f20 = some ⟨oc20, od20, .func (PySem.W.fnOf "_law_signs" "_law_signs" (defArgs sSigns) (defBody sSigns) (defScope sSigns) .none kV20 dc20 pm20 an20 cd20 ct20), sl20⟩) (c20 : PySem.W.codeIn K cd20 "_law_signs" = true) (k20 : PySem.W.keepIn K (.ref f20) = true)
    {f21 : Addr} {od21 an21 : Option Addr} {sl21 : Array (Option Value)} {oc21 kV21 dc21 pm21 cd21 ct21 : Value}
    (a21 : PySem.W.nsIn K mainGlobals "_law_power" = some (some (.ref f21))) (l21 : K.lookup f21 = some ⟨oc21, od21, .func (PySem.W.fnOf "_law_power" "_law_power" (defArgs sPower) (defBody sPower) (defScope sPower) .none kV21 dc21 pm21 an21 cd21 ct21), sl21⟩) (c21 : PySem.W.codeIn K cd21 "_law_power" = true) (k21 : PySem.W.keepIn K (.ref f21) = true)
    {f22 : Addr} {od22 an22 : Option Addr} {sl22 : Array (Option Value)} {oc22 kV22 dc22 pm22 cd22 ct22 : Value}
    (a22 : PySem.W.nsIn K mainGlobals "_law_put_row" = some (some (.ref f22))) (l22 : K.lookup f22 = some ⟨oc22, od22, .func (PySem.W.fnOf "_law_put_row" "_law_put_row" (defArgs sPut) (defBody sPut) (defScope sPut) .none kV22 dc22 pm22 an22 cd22 ct22), sl22⟩) (c22 : PySem.W.codeIn K cd22 "_law_put_row" = true) (k22 : PySem.W.keepIn K (.ref f22) = true)
    {f23 : Addr} {od23 an23 : Option Addr} {sl23 : Array (Option Value)} {oc23 kV23 dc23 pm23 cd23 ct23 : Value}
    (a23 : PySem.W.nsIn K mainGlobals "_law_joint" = some (some (.ref f23))) (l23 : K.lookup f23 = some ⟨oc23, od23, .func (PySem.W.fnOf "_law_joint" "_law_joint" (defArgs sLJoint) (defBody sLJoint) (defScope sLJoint) .none kV23 dc23 pm23 an23 cd23 ct23), sl23⟩) (c23 : PySem.W.codeIn K cd23 "_law_joint" = true) (k23 : PySem.W.keepIn K (.ref f23) = true)
    {f24 : Addr} {od24 an24 : Option Addr} {sl24 : Array (Option Value)} {oc24 kV24 dc24 pm24 cd24 ct24 : Value}
    (a24 : PySem.W.nsIn K mainGlobals "_law_undone" = some (some (.ref f24))) (l24 : K.lookup f24 = some ⟨oc24, od24, .func (PySem.W.fnOf "_law_undone" "_law_undone" (defArgs sLUndone) (defBody sLUndone) (defScope sLUndone) .none kV24 dc24 pm24 an24 cd24 ct24), sl24⟩) (c24 : PySem.W.codeIn K cd24 "_law_undone" = true) (k24 : PySem.W.keepIn K (.ref f24) = true)
    {f25 : Addr} {od25 an25 : Option Addr} {sl25 : Array (Option Value)} {oc25 kV25 dc25 pm25 cd25 ct25 : Value}
    (a25 : PySem.W.nsIn K mainGlobals "_law_row" = some (some (.ref f25))) (l25 : K.lookup f25 = some ⟨oc25, od25, .func (PySem.W.fnOf "_law_row" "_law_row" (defArgs sRow) (defBody sRow) (defScope sRow) .none kV25 dc25 pm25 an25 cd25 ct25), sl25⟩) (c25 : PySem.W.codeIn K cd25 "_law_row" = true) (k25 : PySem.W.keepIn K (.ref f25) = true)
    {f26 : Addr} {od26 an26 : Option Addr} {sl26 : Array (Option Value)} {oc26 kV26 dc26 pm26 cd26 ct26 : Value}
    (a26 : PySem.W.nsIn K mainGlobals "_law_swapped" = some (some (.ref f26))) (l26 : K.lookup f26 = some ⟨oc26, od26, .func (PySem.W.fnOf "_law_swapped" "_law_swapped" (defArgs sSwap) (defBody sSwap) (defScope sSwap) .none kV26 dc26 pm26 an26 cd26 ct26), sl26⟩) (c26 : PySem.W.codeIn K cd26 "_law_swapped" = true) (k26 : PySem.W.keepIn K (.ref f26) = true)
    {f27 : Addr} {od27 an27 : Option Addr} {sl27 : Array (Option Value)} {oc27 kV27 dc27 pm27 cd27 ct27 : Value}
    (a27 : PySem.W.nsIn K mainGlobals "_law_repeated" = some (some (.ref f27))) (l27 : K.lookup f27 = some ⟨oc27, od27, .func (PySem.W.fnOf "_law_repeated" "_law_repeated" (defArgs sRep) (defBody sRep) (defScope sRep) .none kV27 dc27 pm27 an27 cd27 ct27), sl27⟩) (c27 : PySem.W.codeIn K cd27 "_law_repeated" = true) (k27 : PySem.W.keepIn K (.ref f27) = true)
    {f28 : Addr} {od28 an28 : Option Addr} {sl28 : Array (Option Value)} {oc28 kV28 dc28 pm28 cd28 ct28 : Value}
    (a28 : PySem.W.nsIn K mainGlobals "_law_right" = some (some (.ref f28))) (l28 : K.lookup f28 = some ⟨oc28, od28, .func (PySem.W.fnOf "_law_right" "_law_right" (defArgs sRight) (defBody sRight) (defScope sRight) .none kV28 dc28 pm28 an28 cd28 ct28), sl28⟩) (c28 : PySem.W.codeIn K cd28 "_law_right" = true) (k28 : PySem.W.keepIn K (.ref f28) = true)
    {f29 : Addr} {od29 an29 : Option Addr} {sl29 : Array (Option Value)} {oc29 kV29 dc29 pm29 cd29 ct29 : Value}
    (a29 : PySem.W.nsIn K mainGlobals "law" = some (some (.ref f29))) (l29 : K.lookup f29 = some ⟨oc29, od29, .func (PySem.W.fnOf "law" "law" (defArgs sLaw) (defBody sLaw) (defScope sLaw) .none kV29 dc29 pm29 an29 cd29 ct29), sl29⟩) (c29 : PySem.W.codeIn K cd29 "law" = true) (k29 : PySem.W.keepIn K (.ref f29) = true)
    (aM : PySem.W.nsIn K mainGlobals "Made" = some (some (.ref CM))) (aW : PySem.W.nsIn K mainGlobals "Word" = some (some (.ref CW)))
    {fMi : Addr} {odMi anMi : Option Addr} {slMi : Array (Option Value)} {ocMi kVMi dcMi pmMi cdMi ctMi : Value}
    (aMi : PySem.W.findIn K (.ref CM) "__init__" = some (some (.ref fMi))) (iMi : PySem.W.isFn K (.ref fMi) = true) (lMi : K.lookup fMi = some ⟨ocMi, odMi, .func (PySem.W.fnOf "__init__" "Made.__init__" (defArgs sMadeInit) (defBody sMadeInit) (defScope sMadeInit) .none kVMi dcMi pmMi anMi cdMi ctMi), slMi⟩) (cMi : PySem.W.codeIn K cdMi "Made.__init__" = true) (kMi : PySem.W.keepIn K (.ref fMi) = true)
    {fWi : Addr} {odWi anWi : Option Addr} {slWi : Array (Option Value)} {ocWi kVWi dcWi pmWi cdWi ctWi : Value}
    (aWi : PySem.W.findIn K (.ref CW) "__init__" = some (some (.ref fWi))) (iWi : PySem.W.isFn K (.ref fWi) = true) (lWi : K.lookup fWi = some ⟨ocWi, odWi, .func (PySem.W.fnOf "__init__" "Word.__init__" (defArgs sWordInit) (defBody sWordInit) (defScope sWordInit) .none kVWi dcWi pmWi anWi cdWi ctWi), slWi⟩) (cWi : PySem.W.codeIn K cdWi "Word.__init__" = true) (kWi : PySem.W.keepIn K (.ref fWi) = true)
    {fMu : Addr} {odMu anMu : Option Addr} {slMu : Array (Option Value)} {ocMu kVMu dcMu pmMu cdMu ctMu : Value}
    (aMu : PySem.W.findIn K (.ref CW) "__mul__" = some (some (.ref fMu))) (iMu : PySem.W.isFn K (.ref fMu) = true) (lMu : K.lookup fMu = some ⟨ocMu, odMu, .func (PySem.W.fnOf "__mul__" "Word.__mul__" (defArgs sMul) (defBody sMul) (defScope sMul) .none kVMu dcMu pmMu anMu cdMu ctMu), slMu⟩) (cMu : PySem.W.codeIn K cdMu "Word.__mul__" = true) (kMu : PySem.W.keepIn K (.ref fMu) = true)
    {fIn : Addr} {odIn anIn : Option Addr} {slIn : Array (Option Value)} {ocIn kVIn dcIn pmIn cdIn ctIn : Value}
    (aIn : PySem.W.findIn K (.ref CW) "__invert__" = some (some (.ref fIn))) (iIn : PySem.W.isFn K (.ref fIn) = true) (lIn : K.lookup fIn = some ⟨ocIn, odIn, .func (PySem.W.fnOf "__invert__" "Word.__invert__" (defArgs sInv) (defBody sInv) (defScope sInv) .none kVIn dcIn pmIn anIn cdIn ctIn), slIn⟩) (cIn : PySem.W.codeIn K cdIn "Word.__invert__" = true) (kIn : PySem.W.keepIn K (.ref fIn) = true)
    {fEq : Addr} {odEq anEq : Option Addr} {slEq : Array (Option Value)} {ocEq kVEq dcEq pmEq cdEq ctEq : Value}
    (aEq : PySem.W.findIn K (.ref CW) "__eq__" = some (some (.ref fEq))) (iEq : PySem.W.isFn K (.ref fEq) = true) (lEq : K.lookup fEq = some ⟨ocEq, odEq, .func (PySem.W.fnOf "__eq__" "Word.__eq__" (defArgs sEq) (defBody sEq) (defScope sEq) .none kVEq dcEq pmEq anEq cdEq ctEq), slEq⟩) (cEq : PySem.W.codeIn K cdEq "Word.__eq__" = true) (kEq : PySem.W.keepIn K (.ref fEq) = true)
    {fLe : Addr} {odLe anLe : Option Addr} {slLe : Array (Option Value)} {ocLe kVLe dcLe pmLe cdLe ctLe : Value}
    (aLe : PySem.W.findIn K (.ref CW) "__len__" = some (some (.ref fLe))) (iLe : PySem.W.isFn K (.ref fLe) = true) (lLe : K.lookup fLe = some ⟨ocLe, odLe, .func (PySem.W.fnOf "__len__" "Word.__len__" (defArgs sLen) (defBody sLen) (defScope sLen) .none kVLe dcLe pmLe anLe cdLe ctLe), slLe⟩) (cLe : PySem.W.codeIn K cdLe "Word.__len__" = true) (kLe : PySem.W.keepIn K (.ref fLe) = true)
    {fPo : Addr} {odPo anPo : Option Addr} {slPo : Array (Option Value)} {ocPo kVPo dcPo pmPo cdPo ctPo : Value}
    (aPo : PySem.W.findIn K (.ref CW) "power" = some (some (.ref fPo))) (iPo : PySem.W.isFn K (.ref fPo) = true) (lPo : K.lookup fPo = some ⟨ocPo, odPo, .func (PySem.W.fnOf "power" "Word.power" (defArgs sPow) (defBody sPow) (defScope sPow) .none kVPo dcPo pmPo anPo cdPo ctPo), slPo⟩) (cPo : PySem.W.codeIn K cdPo "Word.power" = true) (kPo : PySem.W.keepIn K (.ref fPo) = true)
    {fTu : Addr} {odTu anTu : Option Addr} {slTu : Array (Option Value)} {ocTu kVTu dcTu pmTu cdTu ctTu : Value}
    (aTu : PySem.W.findIn K (.ref CW) "turned" = some (some (.ref fTu))) (iTu : PySem.W.isFn K (.ref fTu) = true) (lTu : K.lookup fTu = some ⟨ocTu, odTu, .func (PySem.W.fnOf "turned" "Word.turned" (defArgs sTurned) (defBody sTurned) (defScope sTurned) .none kVTu dcTu pmTu anTu cdTu ctTu), slTu⟩) (cTu : PySem.W.codeIn K cdTu "Word.turned" = true) (kTu : PySem.W.keepIn K (.ref fTu) = true)
    {fBr : Addr} {odBr anBr : Option Addr} {slBr : Array (Option Value)} {ocBr kVBr dcBr pmBr cdBr ctBr : Value}
    (aBr : PySem.W.findIn K (.ref CW) "bracket" = some (some (.ref fBr))) (iBr : PySem.W.isFn K (.ref fBr) = true) (lBr : K.lookup fBr = some ⟨ocBr, odBr, .func (PySem.W.fnOf "bracket" "Word.bracket" (defArgs sBrack) (defBody sBrack) (defScope sBrack) .none kVBr dcBr pmBr anBr cdBr ctBr), slBr⟩) (cBr : PySem.W.codeIn K cdBr "Word.bracket" = true) (kBr : PySem.W.keepIn K (.ref fBr) = true)
    {fLi : Addr} {odLi anLi : Option Addr} {slLi : Array (Option Value)} {ocLi kVLi dcLi pmLi cdLi ctLi : Value}
    (aLi : PySem.W.findIn K (.ref CW) "_check_like" = some (some (.ref fLi))) (iLi : PySem.W.isFn K (.ref fLi) = true) (lLi : K.lookup fLi = some ⟨ocLi, odLi, .func (PySem.W.fnOf "_check_like" "Word._check_like" (defArgs sLike) (defBody sLike) (defScope sLike) .none kVLi dcLi pmLi anLi cdLi ctLi), slLi⟩) (cLi : PySem.W.codeIn K cdLi "Word._check_like" = true) (kLi : PySem.W.keepIn K (.ref fLi) = true)
    {fSh : Addr} {odSh anSh : Option Addr} {slSh : Array (Option Value)} {ocSh kVSh dcSh pmSh cdSh ctSh : Value}
    (aSh : PySem.W.findIn K (.ref CW) "shortest" = some (some (.ref fSh))) (iSh : PySem.W.isFn K (.ref fSh) = true) (lSh : K.lookup fSh = some ⟨ocSh, odSh, .func (PySem.W.fnOf "shortest" "Word.shortest" (defArgs sShort) (defBody sShort) (defScope sShort) .none kVSh dcSh pmSh anSh cdSh ctSh), slSh⟩) (cSh : PySem.W.codeIn K cdSh "Word.shortest" = true) (kSh : PySem.W.keepIn K (.ref fSh) = true)
    {fRu : Addr} {odRu anRu : Option Addr} {slRu : Array (Option Value)} {ocRu kVRu dcRu pmRu cdRu ctRu : Value}
    {pRu : Addr} {restRu : List Value} (aRu : PySem.W.findIn K (.ref CW) "runs" = some (some (.ref pRu))) (gRu' : PySem.W.specialIn K (.ref pRu) "__get__" = some (some (.builtin "property.__get__"))) (tRu : PySem.W.takesIn K (.ref pRu) = some true) (rRu : PySem.W.recIn K pRu "property" = some (.ref fRu :: restRu)) (lRu : K.lookup fRu = some ⟨ocRu, odRu, .func (PySem.W.fnOf "runs" "Word.runs" (defArgs sRuns) (defBody sRuns) (defScope sRuns) .none kVRu dcRu pmRu anRu cdRu ctRu), slRu⟩) (cRu : PySem.W.codeIn K cdRu "Word.runs" = true) (kRu : PySem.W.keepIn K (.ref fRu) = true)
    {fSi : Addr} {odSi anSi : Option Addr} {slSi : Array (Option Value)} {ocSi kVSi dcSi pmSi cdSi ctSi : Value}
    {pSi : Addr} {restSi : List Value} (aSi : PySem.W.findIn K (.ref CW) "size" = some (some (.ref pSi))) (gSi' : PySem.W.specialIn K (.ref pSi) "__get__" = some (some (.builtin "property.__get__"))) (tSi : PySem.W.takesIn K (.ref pSi) = some true) (rSi : PySem.W.recIn K pSi "property" = some (.ref fSi :: restSi)) (lSi : K.lookup fSi = some ⟨ocSi, odSi, .func (PySem.W.fnOf "size" "Word.size" (defArgs sSize) (defBody sSize) (defScope sSize) .none kVSi dcSi pmSi anSi cdSi ctSi), slSi⟩) (cSi : PySem.W.codeIn K cdSi "Word.size" = true) (kSi : PySem.W.keepIn K (.ref fSi) = true)
    {fOf : Addr} {odOf anOf : Option Addr} {slOf : Array (Option Value)} {ocOf kVOf dcOf pmOf cdOf ctOf : Value}
    {pOf : Addr} {restOf : List Value} (aOf : PySem.W.findCls K (.ref CW) (.type "type") "of" = some (.get (.builtin "classmethod.__get__") (.ref pOf) .none (.ref CW))) (rOf : PySem.W.recIn K pOf "classmethod" = some (.ref fOf :: restOf)) (iOf : PySem.W.fnIn K fOf = true) (lOf : K.lookup fOf = some ⟨ocOf, odOf, .func (PySem.W.fnOf "of" "Word.of" (defArgs sOf) (defBody sOf) (defScope sOf) .none kVOf dcOf pmOf anOf cdOf ctOf), slOf⟩) (cOf : PySem.W.codeIn K cdOf "Word.of" = true) (kOf : PySem.W.keepIn K (.ref fOf) = true)
    (pgM : PySem.W.plainGet K CM Str.empty = true) (hdM : PySem.W.hasDictIn K CM = true) (poM : PySem.W.plainOver K CM = true) (saM : PySem.W.findIn K (.ref CM) "__setattr__" = some (some (.builtin "object.__setattr__"))) (mkM : PySem.W.makesIn K CM = true) (kcM : PySem.W.keepIn K (.ref CM) = true)
    (haM : PySem.W.findIn K (.ref CM) "__class__" = some (some (.builtin "object.__class__"))) (hmM : PySem.W.mroIn K CM (.type "object") = some true)
    (pgW : PySem.W.plainGet K CW Str.empty = true) (hdW : PySem.W.hasDictIn K CW = true) (poW : PySem.W.plainOver K CW = true) (saW : PySem.W.findIn K (.ref CW) "__setattr__" = some (some (.builtin "object.__setattr__"))) (mkW : PySem.W.makesIn K CW = true) (kcW : PySem.W.keepIn K (.ref CW) = true)
    (haW : PySem.W.findIn K (.ref CW) "__class__" = some (some (.builtin "object.__class__"))) (hmW : PySem.W.mroIn K CW (.type "object") = some true)
    (qHn : PySem.W.specialIn K (.builtin "object.__class__") "__get__" = some (some (.builtin "getset_descriptor.__get__"))) (qHt : PySem.W.takesIn K (.builtin "object.__class__") = some true)
    (nC : PySem.W.findIn K (.ref CM) "content" = some none) (nL : PySem.W.findIn K (.ref CW) "_letters" = some none) (nR : PySem.W.findIn K (.ref CW) "_runs" = some none) (iTM : PySem.W.kitOne K (.type "tuple") (.ref CM) = some false)
    (qSf : PySem.W.selfFirst K CW = true) (qNf : PySem.W.notFirst K CW (.ref CW) = true) (qOb : PySem.W.subIn K (.ref CW) (.type "object") = some true) (qNe : PySem.W.findIn K (.ref CW) "__ne__" = some (some (.builtin "object.__ne__"))) (qRd : PySem.W.readsIn K CW (.type "type") = true) (qGa : PySem.W.specialIn K (.ref CW) "__getattribute__" = some (some (.builtin "type.__getattribute__")))
    (z1 : PySem.W.nsIn K mainGlobals "isinstance" = some none)
    (z2 : PySem.W.nsIn K mainGlobals "int" = some none)
    (z3 : PySem.W.nsIn K mainGlobals "str" = some none)
    (z4 : PySem.W.nsIn K mainGlobals "bool" = some none)
    (z5 : PySem.W.nsIn K mainGlobals "abs" = some none)
    (z6 : PySem.W.nsIn K mainGlobals "len" = some none)
    (z7 : PySem.W.nsIn K mainGlobals "list" = some none)
    (z8 : PySem.W.nsIn K mainGlobals "set" = some none)
    (z9 : PySem.W.nsIn K mainGlobals "sorted" = some none)
    (z10 : PySem.W.nsIn K mainGlobals "repr" = some none)
    (z11 : PySem.W.nsIn K mainGlobals "range" = some none)
    (z12 : PySem.W.nsIn K mainGlobals "max" = some none)
    (z13 : PySem.W.nsIn K mainGlobals "min" = some none)
    (z14 : PySem.W.nsIn K mainGlobals "all" = some none)
    (z15 : PySem.W.nsIn K mainGlobals "sum" = some none)
    (z16 : PySem.W.nsIn K mainGlobals "tuple" = some none)
    {t1 : Tok} (v1 : PySem.W.nsIn K mainGlobals "ALPHABET" = some (some (.str alpha t1)))
    {t2 : Tok} (v2 : PySem.W.nsIn K mainGlobals "MAX_LETTERS" = some (some (.int 3 t2)))
    {t3 : Tok} (v3 : PySem.W.nsIn K mainGlobals "MAX_TEXT" = some (some (.int 4000 t3)))
    {t4 : Tok} (v4 : PySem.W.nsIn K mainGlobals "MAX_RUNS" = some (some (.int 200 t4)))
    {t5 : Tok} (v5 : PySem.W.nsIn K mainGlobals "MAX_POWER" = some (some (.int 400 t5))) :
    ∃ fd : FuncData, (∀ (s : Shared) (v : Value), BindsTo s fd ⟨[v], []⟩ [("_law_script", v)]) ∧ ∀ base : Heap, K.In base → base.Ns mainGlobals mg → Kept l.prog w K mg base CX0 8 fa fd ["_law_script"] (spLaw K) := by
  have e := hfa.symm.trans (PySem.W.mg_of X G a29)
  cases e
  obtain ⟨n, t0, en, hx⟩ := hx
  subst en
  have T : Txt K mg := ⟨PySem.W.mg_none_of X G z1, PySem.W.mg_none_of X G z2, PySem.W.mg_none_of X G z3, PySem.W.mg_none_of X G z4, PySem.W.mg_none_of X G z5, PySem.W.mg_none_of X G z6, PySem.W.mg_none_of X G z7, PySem.W.mg_none_of X G z8, PySem.W.mg_none_of X G z9, PySem.W.mg_none_of X G z10, PySem.W.mg_none_of X G z11, PySem.W.mg_none_of X G z12, PySem.W.mg_none_of X G z13, PySem.W.mg_none_of X G z14, PySem.W.mg_none_of X G z15, PySem.W.mg_none_of X G z16, ⟨_, hx⟩, ⟨_, PySem.W.mg_of X G v1⟩, ⟨_, PySem.W.mg_of X G v2⟩, ⟨_, PySem.W.mg_of X G v3⟩, ⟨_, PySem.W.mg_of X G v4⟩, ⟨_, PySem.W.mg_of X G v5⟩⟩
  have D1 : Df K mg "is_integer" sInt ["value"] f1 _ := df_mk X G a1 l1 c1 k1 fun _ _ _ _ _ _ us hl => match us, hl with | [_], _ => rfl
  have D2 : Df K mg "is_letters" sLetters ["value"] f2 _ := df_mk X G a2 l2 c2 k2 fun _ _ _ _ _ _ us hl => match us, hl with | [_], _ => rfl
  have D3 : Df K mg "is_signed" sSigned ["letters", "value"] f3 _ := df_mk X G a3 l3 c3 k3 fun _ _ _ _ _ _ us hl => match us, hl with | [_, _], _ => rfl
  have D4 : Df K mg "check_letters" sCheck ["value"] f4 _ := df_mk X G a4 l4 c4 k4 fun _ _ _ _ _ _ us hl => match us, hl with | [_], _ => rfl
  have D5 : Df K mg "has_only" sHas ["value", "signs", "most"] f5 _ := df_mk X G a5 l5 c5 k5 fun _ _ _ _ _ _ us hl => match us, hl with | [_, _, _], _ => rfl
  have D6 : Df K mg "check_signed" sCheckSigned ["letters", "value"] f6 _ := df_mk X G a6 l6 c6 k6 fun _ _ _ _ _ _ us hl => match us, hl with | [_, _], _ => rfl
  have D7 : Df K mg "check_between" sBetween ["value", "least", "most"] f7 _ := df_mk X G a7 l7 c7 k7 fun _ _ _ _ _ _ us hl => match us, hl with | [_, _, _], _ => rfl
  have D8 : Df K mg "check_most" sMost ["many", "limit"] f8 _ := df_mk X G a8 l8 c8 k8 fun _ _ _ _ _ _ us hl => match us, hl with | [_, _], _ => rfl
  have D9 : Df K mg "joined_runs" sJoin ["pairs"] f9 _ := df_mk X G a9 l9 c9 k9 fun _ _ _ _ _ _ us hl => match us, hl with | [_], _ => rfl
  have D10 : Df K mg "undone_runs" sUndo ["runs"] f10 _ := df_mk X G a10 l10 c10 k10 fun _ _ _ _ _ _ us hl => match us, hl with | [_], _ => rfl
  have D11 : Df K mg "bracket_runs" sBracket ["one", "other"] f11 _ := df_mk X G a11 l11 c11 k11 fun _ _ _ _ _ _ us hl => match us, hl with | [_, _], _ => rfl
  have D12 : Df K mg "runs_of_signs" sOfSigns ["signs"] f12 _ := df_mk X G a12 l12 c12 k12 fun _ _ _ _ _ _ us hl => match us, hl with | [_], _ => rfl
  have D13 : Df K mg "signs_of_runs" sSignsOf ["runs"] f13 _ := df_mk X G a13 l13 c13 k13 fun _ _ _ _ _ _ us hl => match us, hl with | [_], _ => rfl
  have D14 : Df K mg "check_word" sCheckWord ["value"] f14 _ := df_mk X G a14 l14 c14 k14 fun _ _ _ _ _ _ us hl => match us, hl with | [_], _ => rfl
  have D15 : Df K mg "is_row_of_runs" sIsRow ["letters", "value"] f15 _ := df_mk X G a15 l15 c15 k15 fun _ _ _ _ _ _ us hl => match us, hl with | [_, _], _ => rfl
  have D16 : Df K mg "is_run" sIsRun ["letters", "value"] f16 _ := df_mk X G a16 l16 c16 k16 fun _ _ _ _ _ _ us hl => match us, hl with | [_, _], _ => rfl
  have D17 : Df K mg "_law_cup" sCup ["_law_script", "_law_at"] f17 _ := df_mk X G a17 l17 c17 k17 fun _ _ _ _ _ _ us hl => match us, hl with | [_, _], _ => rfl
  have D18 : Df K mg "_law_bit" sBit ["_law_cup_here", "_law_much"] f18 _ := df_mk X G a18 l18 c18 k18 fun _ _ _ _ _ _ us hl => match us, hl with | [_, _], _ => rfl
  have D19 : Df K mg "_law_pick" sPick ["_law_cup_here", "_law_items"] f19 _ := df_mk X G a19 l19 c19 k19 fun _ _ _ _ _ _ us hl => match us, hl with | [_, _], _ => rfl
  have D20 : Df K mg "_law_signs" sSigns ["_law_cup_here"] f20 _ := df_mk X G a20 l20 c20 k20 fun _ _ _ _ _ _ us hl => match us, hl with | [_], _ => rfl
  have D21 : Df K mg "_law_power" sPower ["_law_cup_here", "_law_most"] f21 _ := df_mk X G a21 l21 c21 k21 fun _ _ _ _ _ _ us hl => match us, hl with | [_, _], _ => rfl
  have D22 : Df K mg "_law_put_row" sPut ["_law_row_here", "_law_sign", "_law_much"] f22 _ := df_mk X G a22 l22 c22 k22 fun _ _ _ _ _ _ us hl => match us, hl with | [_, _, _], _ => rfl
  have D23 : Df K mg "_law_joint" sLJoint ["_law_row_here", "_law_other"] f23 _ := df_mk X G a23 l23 c23 k23 fun _ _ _ _ _ _ us hl => match us, hl with | [_, _], _ => rfl
  have D24 : Df K mg "_law_undone" sLUndone ["_law_row_here"] f24 _ := df_mk X G a24 l24 c24 k24 fun _ _ _ _ _ _ us hl => match us, hl with | [_], _ => rfl
  have D25 : Df K mg "_law_row" sRow ["_law_cup_here", "_law_signs_here", "_law_much", "_law_most"] f25 _ := df_mk X G a25 l25 c25 k25 fun _ _ _ _ _ _ us hl => match us, hl with | [_, _, _, _], _ => rfl
  have D26 : Df K mg "_law_swapped" sSwap ["_law_row_here", "_law_other"] f26 _ := df_mk X G a26 l26 c26 k26 fun _ _ _ _ _ _ us hl => match us, hl with | [_, _], _ => rfl
  have D27 : Df K mg "_law_repeated" sRep ["_law_row_here", "_law_much"] f27 _ := df_mk X G a27 l27 c27 k27 fun _ _ _ _ _ _ us hl => match us, hl with | [_, _], _ => rfl
  have D28 : Df K mg "_law_right" sRight ["_law_cup_here"] f28 _ := df_mk X G a28 l28 c28 k28 fun _ _ _ _ _ _ us hl => match us, hl with | [_], _ => rfl
  have D29 : Df K mg "law" sLaw ["_law_script"] fa _ := df_mk X G a29 l29 c29 k29 fun _ _ _ _ _ _ us hl => match us, hl with | [_], _ => rfl
  have FMi := fun_mk (st := sMadeInit) lMi cMi kMi
  have bMi := FMi.binds (ps := ["self", "content"]) fun _ _ _ _ _ _ us hl => match us, hl with | [_, _], _ => rfl
  have FWi := fun_mk (st := sWordInit) lWi cWi kWi
  have bWi := FWi.binds (ps := ["self", "letters", "runs"]) fun _ _ _ _ _ _ us hl => match us, hl with | [_, _, _], _ => rfl
  have FMu := fun_mk (st := sMul) lMu cMu kMu
  have bMu := FMu.binds (ps := ["self", "other"]) fun _ _ _ _ _ _ us hl => match us, hl with | [_, _], _ => rfl
  have FIn := fun_mk (st := sInv) lIn cIn kIn
  have bIn := FIn.binds (ps := ["self"]) fun _ _ _ _ _ _ us hl => match us, hl with | [_], _ => rfl
  have FEq := fun_mk (st := sEq) lEq cEq kEq
  have bEq := FEq.binds (ps := ["self", "other"]) fun _ _ _ _ _ _ us hl => match us, hl with | [_, _], _ => rfl
  have FLe := fun_mk (st := sLen) lLe cLe kLe
  have bLe := FLe.binds (ps := ["self"]) fun _ _ _ _ _ _ us hl => match us, hl with | [_], _ => rfl
  have FPo := fun_mk (st := sPow) lPo cPo kPo
  have bPo := FPo.binds (ps := ["self", "number"]) fun _ _ _ _ _ _ us hl => match us, hl with | [_, _], _ => rfl
  have FTu := fun_mk (st := sTurned) lTu cTu kTu
  have bTu := FTu.binds (ps := ["self", "other"]) fun _ _ _ _ _ _ us hl => match us, hl with | [_, _], _ => rfl
  have FBr := fun_mk (st := sBrack) lBr cBr kBr
  have bBr := FBr.binds (ps := ["self", "other"]) fun _ _ _ _ _ _ us hl => match us, hl with | [_, _], _ => rfl
  have FLi := fun_mk (st := sLike) lLi cLi kLi
  have bLi := FLi.binds (ps := ["self", "other"]) fun _ _ _ _ _ _ us hl => match us, hl with | [_, _], _ => rfl
  have FSh := fun_mk (st := sShort) lSh cSh kSh
  have bSh := FSh.binds (ps := ["self"]) fun _ _ _ _ _ _ us hl => match us, hl with | [_], _ => rfl
  have FRu := fun_mk (st := sRuns) lRu cRu kRu
  have bRu := FRu.binds (ps := ["self"]) fun _ _ _ _ _ _ us hl => match us, hl with | [_], _ => rfl
  have FSi := fun_mk (st := sSize) lSi cSi kSi
  have bSi := FSi.binds (ps := ["self"]) fun _ _ _ _ _ _ us hl => match us, hl with | [_], _ => rfl
  have FOf := fun_mk (st := sOf) lOf cOf kOf
  have bOf := FOf.binds (ps := ["cls", "letters", "text"]) fun _ _ _ _ _ _ us hl => match us, hl with | [_, _, _], _ => rfl
  have clM : Cls K CM := ⟨pgM, hdM, poM, saM⟩
  have clW : Cls K CW := ⟨pgW, hdW, poW, saW⟩
  have W : WF K mg CM CW := ⟨PySem.W.mg_of X G aM, PySem.W.mg_of X G aW, clM, nC, clW, nL, nR, kit_self, iTM, fun H a dx fs e => .base (.ins e clM haM qHn qHt hmM), fun H a dx fs e => .base (.ins e clW haW qHn qHt hmW), kit_self⟩
  refine ⟨PySem.W.fnOf "law" "law" (defArgs sLaw) (defBody sLaw) (defScope sLaw) .none kV29 dc29 pm29 an29 cd29 ct29, fun s v => .of_eq rfl, fun base _ _ => ?_⟩
  have gMI : FnOk l.prog w K mg base CX0 1 fMi _ ["self", "content"] (spMadeInit CM) := ok_madeinit FMi W
  have gWI : FnOk l.prog w K mg base CX0 4 fWi _ ["self", "letters", "runs"] (spWordInit K CM CW) := ok_wordinit FWi T W D5 D2 D4 D1 D16 D15 D9 D8
  have M : Makes4 l.prog w K mg base CM CW fMi fWi _ _ := ⟨W, ⟨mkM, aMi, iMi, kcM⟩, ⟨mkW, aWi, iWi, kcW⟩, gMI, gWI, bMi, bWi⟩
  have gLi : FnOk l.prog w K mg base CX0 2 fLi _ ["self", "other"] (spLike K CW) := ok_like FLi T W D14
  have mLi : Meth K CW "_check_like" fLi := ⟨aLi, iLi, kLi⟩
  have gBk : FnOk l.prog w K mg base CX0 2 f11 _ ["one", "other"] (spRow2 K 100000 brackL) := ok_bracket D11.F T D9 D10
  have C : Cl4 l.prog w K mg base CW :=
    { fMul := fMu, fInv := fIn, fEq := fEq, fLen := fLe, fPow := fPo, fTu := fTu, fBr := fBr, fRu := fRu, pR := pRu, dMul := _, dInv := _, dEq := _, dLen := _, dPow := _, dTu := _, dBr := _, dRu := _
      gMul := ok_mul FMu T M, gInv := ok_inv FIn T M D10, gEq := ok_eq FEq T W, gLen := ok_len FLe T W, gPow := ok_pow FPo T M D10 D7 D1
      gTu := ok_turned (fC := fMi) (fdC := PySem.W.fnOf "__init__" "Made.__init__" (defArgs sMadeInit) (defBody sMadeInit) (defScope sMadeInit) .none kVMi dcMi pmMi anMi cdMi ctMi) FTu T M D10 gLi mLi bLi, gBr := ok_brackm FBr T M D11 gBk gLi mLi bLi, gRu := ok_runs FRu W
      bMul := bMu, bInv := bIn, bEq := bEq, bLen := bLe, bPow := bPo, bTu := bTu, bBr := bBr, bRu := bRu
      hc := qSf, nf := qNf, ob := qOb, sMul := aMu, sInv := aIn, sEq := aEq, sNe := qNe, sLen := aLe, fnMul := iMu, fnInv := iIn, fnEq := iEq, fnLen := iLe
      mPow := ⟨aPo, iPo, kPo⟩, mTu := ⟨aTu, iTu, kTu⟩, mBr := ⟨aBr, iBr, kBr⟩, pRu := ⟨aRu, gRu', tRu, restRu, rRu⟩ }
  have gSi : FnOk l.prog w K mg base CX0 1 fSi _ ["self"] (spSize K CW) := ok_size FSi T W
  have gOf : FnOk l.prog w K mg base CX0 6 fOf _ ["cls", "letters", "text"] (spOf K CW) := ok_of FOf T M D5 D2 D4 D3 D6 D9 D12
  have S : Sh4 l.prog w K mg base CW :=
    { fSh := fSh, pO := pOf, gO := fOf, dSh := _, mc := .type "type", gSh := ok_short FSh T W D8 D13 gSi ⟨aSi, gSi', tSi, restSi, rSi⟩ bSi, bSh := bSh, mSh := ⟨aSh, iSh, kSh⟩, rd := ⟨qRd, qGa⟩, cm := ⟨aOf, ⟨restOf, rOf⟩, iOf⟩
      gOf := (gOf.raw bOf .nil).imp fun vs H Q E h => by rw [List.append_nil]; exact h }
  exact ok_law D29.F T M C S (ok_cup D17.F T) (ok_right D28.F T M C D18 D19 D20 D21 D22 D25 D23 D24 D27 D26) D17 D28
theorem fin {l : PySem.W.OpenLaw} {q : Program} {loose : List Str} {XP : (Str → Option Value) → Heap → Prop} {YP : World → Heap → Prop} {d : DefRec} {K : Params → PySem.W.Frag} (hn : l.most = some 63) (hdf : d.params.defaults = [])
    (hY : ∀ (w : World) (h : Heap), YP w h → (K w.params).In h)
    (F : ∀ (w : World) (mg : Str → Option Value) (fa : Addr) (h : Heap), (K w.params).In h → h.Ns mainGlobals mg → mg d.name = some (.ref fa) → XP mg h →
      ∃ fd : FuncData, (∀ (s : Shared) (u : Value), BindsTo s fd ⟨[u], []⟩ [("_law_script", u)]) ∧ ∀ base : Heap, (K w.params).In base → base.Ns mainGlobals mg → Kept l.prog w (K w.params) mg base CX0 8 fa fd ["_law_script"] (spLaw (K w.params))) :
    PySem.W.WalkO q loose XP YP l.row.toRowW d [] (fun f vs => PySem.call f vs) :=
  Tg.walk (n := 63) (k := 8) (x := "_law_script") (cx := fun _ => CX0) (sp := fun w => spLaw (K w.params)) hn (by decide) hdf ⟨rfl, by decide, by decide⟩ hY F (fun _ _ a ns hl _ hS => ⟨a, ns, rfl, hS, hl, fun _ => rfl⟩) fun _ _ _ _ _ z => z
end K4

set_option Elab.async false
set_option maxRecDepth 100000
open PySem PySem.W PyProof.Rows
set_option maxRecDepth 100000 in
set_option maxHeartbeats 0 in
theorem PySem.Challenge.cw_whatcounts_k04_whole_words_as_a_group_holds : PySem.Challenge.rw_whatcounts_k04_whole_words_as_a_group.Holds := by
  w_on; o_law; k_head; (case hw => w_witness2)
  k_fill
  refine K4.fin (l := PySem.Challenge.rw_whatcounts_k04_whole_words_as_a_group) rfl rfl (fun w h Y => PySem.W.kIn_of Y) ?F
  case F =>
    intro w mg fa h KX G hmg hx
    have hx' : ∃ n t, n = 10 ^ 200 ∧ mg "LEAST_TOO_LONG" = some (.int n t) := by
      obtain ⟨v, e, r⟩ := hx.2.val _ (List.mem_singleton.mpr rfl)
      cases r
      exact ⟨_, _, by decide +kernel, e⟩
    refine' K4.all_mk KX G hmg hx' ?a1 ?l1 ?c1 ?k1 ?a2 ?l2 ?c2 ?k2 ?a3 ?l3 ?c3 ?k3 ?a4 ?l4 ?c4 ?k4 ?a5 ?l5 ?c5 ?k5 ?a6 ?l6 ?c6 ?k6 ?a7 ?l7 ?c7 ?k7 ?a8 ?l8 ?c8 ?k8 ?a9 ?l9 ?c9 ?k9 ?a10 ?l10 ?c10 ?k10 ?a11 ?l11 ?c11 ?k11 ?a12 ?l12 ?c12 ?k12 ?a13 ?l13 ?c13 ?k13 ?a14 ?l14 ?c14 ?k14 ?a15 ?l15 ?c15 ?k15 ?a16 ?l16 ?c16 ?k16 ?a17 ?l17 ?c17 ?k17 ?a18 ?l18 ?c18 ?k18 ?a19 ?l19 ?c19 ?k19 ?a20 ?l20 ?c20 ?k20 ?a21 ?l21 ?c21 ?k21 ?a22 ?l22 ?c22 ?k22 ?a23 ?l23 ?c23 ?k23 ?a24 ?l24 ?c24 ?k24 ?a25 ?l25 ?c25 ?k25 ?a26 ?l26 ?c26 ?k26 ?a27 ?l27 ?c27 ?k27 ?a28 ?l28 ?c28 ?k28 ?a29 ?l29 ?c29 ?k29 ?aM ?aW ?aMi ?iMi ?lMi ?cMi ?kMi ?aWi ?iWi ?lWi ?cWi ?kWi ?aMu ?iMu ?lMu ?cMu ?kMu ?aIn ?iIn ?lIn ?cIn ?kIn ?aEq ?iEq ?lEq ?cEq ?kEq ?aLe ?iLe ?lLe ?cLe ?kLe ?aPo ?iPo ?lPo ?cPo ?kPo ?aTu ?iTu ?lTu ?cTu ?kTu ?aBr ?iBr ?lBr ?cBr ?kBr ?aLi ?iLi ?lLi ?cLi ?kLi ?aSh ?iSh ?lSh ?cSh ?kSh ?aRu ?gRu ?tRu ?rRu ?lRu ?cRu ?kRu ?aSi ?gSi ?tSi ?rSi ?lSi ?cSi ?kSi ?aOf ?rOf ?iOf ?lOf ?cOf ?kOf ?pgM ?hdM ?poM ?saM ?mkM ?kcM ?haM ?hmM ?pgW ?hdW ?poW ?saW ?mkW ?kcW ?haW ?hmW ?qHn ?qHt ?nC ?nL ?nR ?iTM ?qSf ?qNf ?qOb ?qNe ?qRd ?qGa ?z1 ?z2 ?z3 ?z4 ?z5 ?z6 ?z7 ?z8 ?z9 ?z10 ?z11 ?z12 ?z13 ?z14 ?z15 ?z16 ?v1 ?v2 ?v3 ?v4 ?v5
    (case a1 => k_is)
    (case l1 => k_is)
    (case c1 => k_is)
    (case k1 => k_is)
    (case a2 => k_is)
    (case l2 => k_is)
    (case c2 => k_is)
    (case k2 => k_is)
    (case a3 => k_is)
    (case l3 => k_is)
    (case c3 => k_is)
    (case k3 => k_is)
    (case a4 => k_is)
    (case l4 => k_is)
    (case c4 => k_is)
    (case k4 => k_is)
    (case a5 => k_is)
    (case l5 => k_is)
    (case c5 => k_is)
    (case k5 => k_is)
    (case a6 => k_is)
    (case l6 => k_is)
    (case c6 => k_is)
    (case k6 => k_is)
    (case a7 => k_is)
    (case l7 => k_is)
    (case c7 => k_is)
    (case k7 => k_is)
    (case a8 => k_is)
    (case l8 => k_is)
    (case c8 => k_is)
    (case k8 => k_is)
    (case a9 => k_is)
    (case l9 => k_is)
    (case c9 => k_is)
    (case k9 => k_is)
    (case a10 => k_is)
    (case l10 => k_is)
    (case c10 => k_is)
    (case k10 => k_is)
    (case a11 => k_is)
    (case l11 => k_is)
    (case c11 => k_is)
    (case k11 => k_is)
    (case a12 => k_is)
    (case l12 => k_is)
    (case c12 => k_is)
    (case k12 => k_is)
    (case a13 => k_is)
    (case l13 => k_is)
    (case c13 => k_is)
    (case k13 => k_is)
    (case a14 => k_is)
    (case l14 => k_is)
    (case c14 => k_is)
    (case k14 => k_is)
    (case a15 => k_is)
    (case l15 => k_is)
    (case c15 => k_is)
    (case k15 => k_is)
    (case a16 => k_is)
    (case l16 => k_is)
    (case c16 => k_is)
    (case k16 => k_is)
    (case a17 => k_is)
    (case l17 => k_is)
    (case c17 => k_is)
    (case k17 => k_is)
    (case a18 => k_is)
    (case l18 => k_is)
    (case c18 => k_is)
    (case k18 => k_is)
    (case a19 => k_is)
    (case l19 => k_is)
    (case c19 => k_is)
    (case k19 => k_is)
    (case a20 => k_is)
    (case l20 => k_is)
    (case c20 => k_is)
    (case k20 => k_is)
    (case a21 => k_is)
    (case l21 => k_is)
    (case c21 => k_is)
    (case k21 => k_is)
    (case a22 => k_is)
    (case l22 => k_is)
    (case c22 => k_is)
    (case k22 => k_is)
    (case a23 => k_is)
    (case l23 => k_is)
    (case c23 => k_is)
    (case k23 => k_is)
    (case a24 => k_is)
    (case l24 => k_is)
    (case c24 => k_is)
    (case k24 => k_is)
    (case a25 => k_is)
    (case l25 => k_is)
    (case c25 => k_is)
    (case k25 => k_is)
    (case a26 => k_is)
    (case l26 => k_is)
    (case c26 => k_is)
    (case k26 => k_is)
    (case a27 => k_is)
    (case l27 => k_is)
    (case c27 => k_is)
    (case k27 => k_is)
    (case a28 => k_is)
    (case l28 => k_is)
    (case c28 => k_is)
    (case k28 => k_is)
    (case a29 => k_is)
    (case l29 => k_is)
    (case c29 => k_is)
    (case k29 => k_is)
    (case aM => k_is)
    (case aW => k_is)
    (case aMi => k_is)
    (case iMi => k_is)
    (case lMi => k_is)
    (case cMi => k_is)
    (case kMi => k_is)
    (case aWi => k_is)
    (case iWi => k_is)
    (case lWi => k_is)
    (case cWi => k_is)
    (case kWi => k_is)
    (case aMu => k_is)
    (case iMu => k_is)
    (case lMu => k_is)
    (case cMu => k_is)
    (case kMu => k_is)
    (case aIn => k_is)
    (case iIn => k_is)
    (case lIn => k_is)
    (case cIn => k_is)
    (case kIn => k_is)
    (case aEq => k_is)
    (case iEq => k_is)
    (case lEq => k_is)
    (case cEq => k_is)
    (case kEq => k_is)
    (case aLe => k_is)
    (case iLe => k_is)
    (case lLe => k_is)
    (case cLe => k_is)
    (case kLe => k_is)
    (case aPo => k_is)
    (case iPo => k_is)
    (case lPo => k_is)
    (case cPo => k_is)
    (case kPo => k_is)
    (case aTu => k_is)
    (case iTu => k_is)
    (case lTu => k_is)
    (case cTu => k_is)
    (case kTu => k_is)
    (case aBr => k_is)
    (case iBr => k_is)
    (case lBr => k_is)
    (case cBr => k_is)
    (case kBr => k_is)
    (case aLi => k_is)
    (case iLi => k_is)
    (case lLi => k_is)
    (case cLi => k_is)
    (case kLi => k_is)
    (case aSh => k_is)
    (case iSh => k_is)
    (case lSh => k_is)
    (case cSh => k_is)
    (case kSh => k_is)
    (case aRu => k_is)
    (case gRu => k_is)
    (case tRu => k_is)
    (case rRu => k_is)
    (case lRu => k_is)
    (case cRu => k_is)
    (case kRu => k_is)
    (case aSi => k_is)
    (case gSi => k_is)
    (case tSi => k_is)
    (case rSi => k_is)
    (case lSi => k_is)
    (case cSi => k_is)
    (case kSi => k_is)
    (case aOf => k_is)
    (case rOf => k_is)
    (case iOf => k_is)
    (case lOf => k_is)
    (case cOf => k_is)
    (case kOf => k_is)
    (case pgM => k_is)
    (case hdM => k_is)
    (case poM => k_is)
    (case saM => k_is)
    (case mkM => k_is)
    (case kcM => k_is)
    (case haM => k_is)
    (case hmM => k_is)
    (case pgW => k_is)
    (case hdW => k_is)
    (case poW => k_is)
    (case saW => k_is)
    (case mkW => k_is)
    (case kcW => k_is)
    (case haW => k_is)
    (case hmW => k_is)
    (case qHn => k_is)
    (case qHt => k_is)
    (case nC => k_is)
    (case nL => k_is)
    (case nR => k_is)
    (case iTM => first | k_is | kit_is)
    (case qSf => k_is)
    (case qNf => first | rfl | k_is)
    (case qOb => k_is)
    (case qNe => k_is)
    (case qRd => k_is)
    (case qGa => k_is)
    (case z1 => k_is)
    (case z2 => k_is)
    (case z3 => k_is)
    (case z4 => k_is)
    (case z5 => k_is)
    (case z6 => k_is)
    (case z7 => k_is)
    (case z8 => k_is)
    (case z9 => k_is)
    (case z10 => k_is)
    (case z11 => k_is)
    (case z12 => k_is)
    (case z13 => k_is)
    (case z14 => k_is)
    (case z15 => k_is)
    (case z16 => k_is)
    (case v1 => k_is)
    (case v2 => k_is)
    (case v3 => k_is)
    (case v4 => k_is)
    (case v5 => k_is)

