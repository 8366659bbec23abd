import PyProof.Rows.All
import Wide.All
import OpenK.AllK
import Wide.FinOn
import HandS.ForMost
import HandS.IsInst
import HandS.Wide
import HandS.Strs
import HandS.SetTxt0
import HandS.Set
import HandS.SetTxtIn
import HandS.Exc
import HandS.TryOnly
import HandS.ExcOwn
import HandS.WordsExc
import PyProof.ReprReads
import PyProof.Rows.StrCut
import HandS.StrMore
import HandS.Iter
import KE.GoesMore
import PyProof.EnumMake
import PyProof.Draws
import PyProof.Rows.SortShell
import HandS.Conv
import HandS.DictComp
import HandS.TupAny
import KE.KDictDisplayH
import KE.SortData
import HandS.Gcd
import KE.SortLaws
import HandS.TupLen
import PySem.Challenge.RW_whatcounts_k42_whole_spanned_turns
set_option Elab.async false
set_option linter.all false
set_option maxRecDepth 100000
set_option maxHeartbeats 3200000
/-! sets of texts: made of a text, sorted -/
namespace Tx
open PySem PySem.Spec PyProof.Rows L2

/-- the text that an entry holds -/
def tx (e : Int × Value) : Str := match e.2 with
  | .str y _ => y
  | _ => Str.empty
/-- an entry of a set of texts -/
def Ent (w : World) (e : Int × Value) : Prop := ∃ y u, e.2 = Value.str y u ∧ e.1 = hashStr w y

/-- at a stands a set whose members are the texts ys, in some order -/
def At (w : World) (h : Heap) (a : Addr) (ys : List Str) : Prop :=
  ∃ (o : Obj) (es : Array (Int × Value)) (ep : Nat) (t : SetTable), h.get? a = some o ∧ o.ExactSet ∧ o.data = .set es ep t ∧
    (∀ e ∈ es.toList, Ent w e) ∧ (es.toList.map tx).Perm ys ∧ es.size < scanBound ∧ t.fits es.size = true ∧
    Ris t.place.toList ∧ (w.params.followText "set-order" = true ∨ t.led = true)

section
variable {P : Program} {w : World} {h h' : Heap} {a : Addr} {ys : List Str}
theorem At.stays (R : At w h a ys) (k : ∀ o, h.get? a = some o → h'.get? a = some o) : At w h' a ys :=
  let ⟨o, es, ep, t, ho, r⟩ := R
  ⟨o, es, ep, t, k o ho, r⟩
theorem Ent.elems {l : List (Int × Value)} (g : ∀ e ∈ l, Ent w e) : ElemsOf (strKind P w) l := by
  intro e he
  obtain ⟨y, u, q1, q2⟩ := g e he
  refine ⟨⟨y, ?_, q2⟩, ?_⟩
  · rw [q1]
    exact Froz.is_str y u
  · rw [q1]
    rfl
theorem Ent.is {e : Int × Value} (g : Ent w e) (k : Str) : (strKind P w).is k e.2 = true ↔ tx e = k := by
  obtain ⟨y, u, q1, _⟩ := g
  unfold tx
  rw [q1]
  constructor
  · intro q
    exact ((strKind P w).inj (.str y u) k y q (Froz.is_str y u)).symm
  · intro q
    subst q
    exact Froz.is_str _ u
theorem Ent.mem {l : List (Int × Value)} (g : ∀ e ∈ l, Ent w e) (k : Str) : k ∈ l.map tx ↔ ∃ e ∈ l, (strKind P w).is k e.2 = true := by
  rw [List.mem_map]
  exact ⟨fun ⟨e, he, q⟩ => ⟨e, he, ((g e he).is k).mpr q⟩, fun ⟨e, he, q⟩ => ⟨e, he, ((g e he).is k).mp q⟩⟩
end

section
variable {P : Program} {w : World} {A : Around} {E : Value → Shared → Prop} {s : Shared} {a : Addr} {ys : List Str}
theorem add_tail {g : Bool → Sem Unit} (hg : ∀ (b : Bool) (z : Shared) (R : Unit → Shared → Prop), R () z → wpAny (model P w) A (g b) R E z)
    {o : Obj} {es : Array (Int × Value)} {ep : Nat} {t : SetTable} (ho : s.heap.get? a = some o) (hx : o.ExactSet) (hd : o.data = .set es ep t)
    {es1 : Array (Int × Value)} {t2 : SetTable} (g1 : ∀ e ∈ es1.toList, Ent w e) (m1 : (es1.toList.map tx).Perm ys)
    (hb1 : es1.size < scanBound) (hf2 : t2.fits es1.size = true) (hr : Ris t2.place.toList) (hl : w.params.followText "set-order" = true ∨ t2.led = true)
    {was : Bool} {R : Option Bool → Shared → Prop}
    (hR : ∀ h', Heap.SameBut a s.heap h' → At w h' a ys → R (some true) { s with heap := h' }) :
    wpAny (model P w) A (do
        storeSet a es1 t2
        if (!was && t2.tooFull) = true then do
            g (relayAll t2 es1 (SetTable.grown es1.size)).2.2
            storeSet a (relayAll t2 es1 (SetTable.grown es1.size)).1 (relayAll t2 es1 (SetTable.grown es1.size)).2.1
            pure (some true)
          else pure (some true)) R E s := by
  refine wpAny_bind (wpAny_storeSet_of ho hd ?_ (fits_of_scanBound hb1))
  have q1 := store_at (es' := es1) (t' := t2) ho hd
  have sb := Heap.SameBut.update s.heap a (Obj.putSet es1 t2)
  split
  · have p3 := relayAll_perm t2 es1 (SetTable.grown es1.size)
    have f3 := relayAll_fits t2 es1 (SetTable.grown es1.size)
    have r3 := relayAll_ris t2 es1 (SetTable.grown es1.size)
    have l3 := relayAll_led t2 es1 (SetTable.grown es1.size)
    generalize relayAll t2 es1 (SetTable.grown es1.size) = Z at p3 f3 r3 l3 ⊢
    obtain ⟨es2, t3, gave⟩ := Z
    dsimp only at p3 f3 r3 l3 ⊢
    have z2 : es2.size = es1.size := by
      have := p3.length_eq
      rw [Array.length_toList, Array.length_toList] at this
      exact this
    refine wpAny_bind (hg _ _ _ ?_)
    refine wpAny_bind (wpAny_storeSet_of q1 rfl ?_ (fits_of_scanBound (by rw [z2]; exact hb1)))
    have q2 := store_at (es' := es2) (t' := t3) q1 rfl
    refine wpAny_pure (hR _ (sb.trans (Heap.SameBut.update _ a _)) ?_)
    exact ⟨_, es2, _, t3, q2, hx, rfl, fun e he => g1 e (p3.mem_iff.mp he), (p3.map tx).trans m1, by rw [z2]; exact hb1, f3, r3, hl.imp id fun z => l3.trans z⟩
  · exact wpAny_pure (hR _ sb ⟨_, es1, _, t2, q1, hx, rfl, g1, m1, hb1, hf2, hr, hl⟩)

theorem add_hashed {k : Str} {u : Tok} {Q : Bool → Shared → Prop} (R : At w s.heap a ys) (room : ys.length + 1 < scanBound)
    (hQ : ∀ h', Heap.SameBut a s.heap h' → At w h' a (if k ∈ ys then ys else k :: ys) → Q (!decide (k ∈ ys)) { s with heap := h' }) :
    wpAny (model P w) A (setAddHashed a (.str k u) (hashStr w k)) Q E s := by
  obtain ⟨o, es, ep, t, ho, hx, hd, g, pm, hb, hf, hr, hl⟩ := R
  have hkey : (strKind P w).is k (.str k u) = true := Froz.is_str k u
  have hel : ElemsOf (strKind P w) es.toList := Ent.elems g
  have hz : es.size = ys.length := by
    have := pm.length_eq
    rw [List.length_map, Array.length_toList] at this
    exact this
  unfold setAddHashed setAddHashedIn
  refine wpAny_holding (wpAny_bind (wpAny_setState_of ho hd hf ?_))
  dsimp only
  rw [byScan_of (x := Value.str k u) rfl hb hel]
  simp only [↓reduceIte]
  unfold setAddByScan
  refine wpAny_bind ?_
  refine wpAny_bind (wpAny_rule ?_)
  refine wpAny_bind (wpAny_setScan_of (knd := strKind P w) (k := k) hkey ho hd hf hel ?_)
  cases hfi : List.findIdx? (fun e => (strKind P w).is k e.2) es.toList with
  | some j =>
    dsimp only
    obtain ⟨hj, pj, _⟩ := List.findIdx?_eq_some_iff_getElem.mp hfi
    have hk : k ∈ ys := pm.mem_iff.mp ((Ent.mem (P := P) g k).mpr ⟨es.toList[j], List.getElem_mem hj, pj⟩)
    refine wpAny_pure (wpAny_pure ?_)
    have q := hQ s.heap (Heap.SameBut.refl a s.heap) (by rw [if_pos hk]; exact ⟨o, es, ep, t, ho, hx, hd, g, pm, hb, hf, hr, hl⟩)
    rw [decide_eq_true hk] at q
    exact q
  | none =>
    dsimp only
    have hk : k ∉ ys := fun z => by
      obtain ⟨e, he, q⟩ := (Ent.mem (P := P) g k).mp (pm.mem_iff.mpr z)
      have c := List.findIdx?_eq_none_iff.mp hfi e he
      rw [q] at c
      cases c
    have hgw : ∀ (b : Bool) {z : Shared} {R : Unit → Shared → Prop}, R () z → wpAny (model P w) A (match b with | true => rule "set.scan.the-table-gave-way" | false => pure ()) R E z := by
      intro b z R q
      cases b
      · exact wpAny_pure q
      · exact wpAny_rule q
    have p1 := layNew_perm t es (hashStr w k) (.str k u)
    have f1 := layNew_fits t es (hashStr w k) (.str k u)
    have r1 := layNew_ris t es (hashStr w k) (.str k u) hr
    have l1 := layNew_led t es (hashStr w k) (.str k u)
    generalize layNew t es (hashStr w k) (.str k u) = Z at p1 f1 r1 l1 ⊢
    obtain ⟨es1, t1, was, gave⟩ := Z
    dsimp only at p1 f1 r1 l1 ⊢
    rw [Array.toList_push] at p1
    have pc : es1.toList.Perm ((hashStr w k, Value.str k u) :: es.toList) := p1.trans (List.perm_append_singleton _ _)
    have pk : (es1.toList.map tx).Perm (k :: ys) := (pc.map tx).trans (List.Perm.cons k pm)
    have g1 : ∀ e ∈ es1.toList, Ent w e := by
      intro e he
      cases List.mem_cons.mp (pc.mem_iff.mp he) with
      | inl z => exact ⟨k, u, by rw [z], by rw [z]⟩
      | inr z => exact g e z
    have hb1 : es1.size < scanBound := by
      have e1 : es1.size = ys.length + 1 := by
        have := pk.length_eq
        rw [List.length_map, Array.length_toList] at this
        exact this
      rw [e1]
      exact room
    have hld : w.params.followText "set-order" = true ∨ t1.led = true := hl.imp id fun z => l1.trans z
    have fin : ∀ h', Heap.SameBut a s.heap h' → At w h' a (k :: ys) → Q true { s with heap := h' } := by
      intro h' sb r
      have q := hQ h' sb (by rw [if_neg hk]; exact r)
      rw [decide_eq_false hk] at q
      exact q
    refine wpAny_bind (hgw _ ?_)
    split
    · refine wpAny_bind ?_
      rw [hashByValue_scannable 8 (x := Value.str k u) rfl]
      refine wpAny_pure ?_
      refine add_tail (ys := k :: ys) ?_ ho hx hd g1 pk hb1 ?_ ?_ ?_ ?_
      · intro b z R q
        cases b
        · exact wpAny_pure q
        · exact wpAny_rule q
      · first | (split <;> first | exact f1 | exact SetTable.fits_plain_off f1) | exact f1
      · first | (split <;> exact r1) | exact r1
      · first | (split <;> exact hld) | exact hld
      · intro h' sb r
        dsimp only
        exact wpAny_pure (fin h' sb r)
    · refine wpAny_bind (wpAny_pure ?_)
      simp only [↓reduceIte]
      refine add_tail (ys := k :: ys) ?_ ho hx hd g1 pk hb1 f1 r1 hld ?_
      · intro b z R q
        cases b
        · exact wpAny_pure q
        · exact wpAny_rule q
      · intro h' sb r
        dsimp only
        exact wpAny_pure (fin h' sb r)
end

/-! ### the signs of a text, each once -/
abbrev one (c : Nat) : Str := ⟨#[c]⟩
theorem one_inj {c d : Nat} (h : one c = one d) : c = d := by
  have q : [c] = [d] := congrArg (fun y : Str => y.cps.toList) h
  exact (List.cons.inj q).1
/-- the members behind the first signs -/
def met : List Nat → List Nat → List Nat
  | acc, [] => acc
  | acc, c :: r => met (if c ∈ acc then acc else c :: acc) r
theorem met_len (l : List Nat) : ∀ acc : List Nat, (met acc l).length ≤ acc.length + l.length := by
  induction l with
  | nil => intro acc; exact Nat.le_refl _
  | cons c r ih =>
    intro acc
    have h := ih (if c ∈ acc then acc else c :: acc)
    show (met (if c ∈ acc then acc else c :: acc) r).length ≤ acc.length + (r.length + 1)
    split at h <;> rename_i hc
    · rw [if_pos hc]; omega
    · rw [if_neg hc]
      rw [List.length_cons] at h
      omega
theorem met_mem (l : List Nat) : ∀ (acc : List Nat) (c : Nat), c ∈ met acc l ↔ c ∈ acc ∨ c ∈ l := by
  induction l with
  | nil => intro acc c; simp [met]
  | cons d r ih =>
    intro acc c
    show c ∈ met (if d ∈ acc then acc else d :: acc) r ↔ _
    rw [ih]
    by_cases hd : d ∈ acc
    · rw [if_pos hd, List.mem_cons]
      constructor
      · rintro (q | q)
        · exact .inl q
        · exact .inr (.inr q)
      · rintro (q | q | q)
        · exact .inl q
        · exact .inl (q ▸ hd)
        · exact .inr q
    · rw [if_neg hd, List.mem_cons, List.mem_cons]
      constructor
      · rintro ((q | q) | q)
        · exact .inr (.inl q)
        · exact .inl q
        · exact .inr (.inr q)
      · rintro (q | q | q)
        · exact .inl (.inr q)
        · exact .inl (.inl q)
        · exact .inr q
theorem met_nodup (l : List Nat) : ∀ acc : List Nat, acc.Nodup → (met acc l).Nodup := by
  induction l with
  | nil => intro acc h; exact h
  | cons d r ih =>
    intro acc h
    refine ih _ ?_
    by_cases hd : d ∈ acc
    · rw [if_pos hd]; exact h
    · rw [if_neg hd]; exact List.nodup_cons.mpr ⟨hd, h⟩
theorem met_mono (l : List Nat) : ∀ (acc : List Nat), acc.length ≤ (met acc l).length := by
  induction l with
  | nil => intro acc; exact Nat.le_refl _
  | cons d r ih =>
    intro acc
    refine Nat.le_trans ?_ (ih _)
    by_cases hd : d ∈ acc
    · rw [if_pos hd]; exact Nat.le_refl _
    · rw [if_neg hd]; exact Nat.le_succ _
theorem mem_one {c : Nat} {l : List Nat} : one c ∈ l.map one ↔ c ∈ l := by
  rw [List.mem_map]
  exact ⟨fun ⟨d, hd, q⟩ => one_inj q ▸ hd, fun q => ⟨c, q, rfl⟩⟩

section
variable {P : Program} {w : World} {A : Around} {R : Result → Shared → Prop} {I : Addr} {fp wr : List Addr} {St : Nat → Heap → Prop} {x : Str}
/-- the making: sign by sign into the set at S -/
theorem loop (W : Walks P w A.in1 I fp wr x.cps.size (SignAt x) St) (S : Addr) (hS : S ∉ fp) (hfew : (met [] x.cps.toList).length + 1 < scanBound) :
    ∀ (r : List Nat) (i : Nat) (acc : List Nat) (s : Shared), x.cps.toList.drop i = r → i ≤ x.cps.size → met acc r = met [] x.cps.toList → St i s.heap → At w s.heap S (acc.map one) →
      (∀ h' tk, (∀ b o, b ≠ S → b ∉ wr → s.heap.get? b = some o → h'.get? b = some o) → At w h' S ((met [] x.cps.toList).map one) → R (.ok (.ret .none)) { s with heap := h', toks := tk }) →
      codeAny (model P w) A (.builtin "set.update.loop" ⟨[.ref S, .ref I], []⟩) R s := by
  have hSw : S ∉ wr := fun z => hS (W.sub _ z)
  intro r
  induction r with
  | nil =>
    intro i acc s hr hi hm hst hat hR
    have hin : i = x.cps.size := by
      have := List.drop_eq_nil_iff.mp hr
      rw [Array.length_toList] at this
      omega
    subst hin
    refine codeAny_builtin PyProof.Rows.F.entry_set_update_loop ?_
    rw [Around.under_plainId PyProof.Rows.F.plain_set_update_loop _]
    show wpAny _ A.in1 (pyNext (.ref I) >>= _) _ _ s
    refine wpAny_bind (W.done s _ _ hst fun h' tk k => ?_)
    show wpAny _ A.in1 (ret Value.none) _ _ _
    refine wpAny_pure (hR h' tk (fun b o _ hb e => k b o hb e) ?_)
    have e : acc = met [] x.cps.toList := hm
    rw [← e]
    exact hat.stays fun o e => k S o hSw e
  | cons c r ih =>
    intro i acc s hr hi hm hst hat hR
    obtain ⟨hx, hr2⟩ := Froz.at_of hr
    have hlt : i < x.cps.size := by
      rcases Nat.lt_or_ge i x.cps.size with z | z
      · exact z
      · rw [Array.getElem?_eq_none z] at hx
        cases hx
    refine codeAny_builtin PyProof.Rows.F.entry_set_update_loop ?_
    rw [Around.under_plainId PyProof.Rows.F.plain_set_update_loop _]
    show wpAny _ A.in1 (pyNext (.ref I) >>= _) _ _ s
    refine wpAny_bind (W.item i s _ _ hlt hst fun v h1 tk1 hv hst1 k1 => ?_)
    obtain ⟨d, u, hd, rfl⟩ := hv
    have ed : d = c := Option.some.inj (hd.symm.trans hx)
    subst ed
    have hat1 : At w h1 S (acc.map one) := hat.stays fun o e => k1 S o hSw e
    show wpAny _ A.in1 (holding [Value.str (one d) u] (setAdd S (.str (one d) u)) >>= _) _ _ _
    refine wpAny_bind (wpAny_holding ?_)
    unfold setAdd
    refine wpAny_holding ?_
    refine wpAny_bind ((strKind P w).pyHash (k := one d) (Froz.is_str _ _) ?_)
    have hlen : (acc.map one).length + 1 < scanBound := by
      rw [List.length_map]
      have := met_mono (d :: r) acc
      rw [hm] at this
      omega
    refine add_hashed (ys := acc.map one) (s := { s with heap := h1, toks := tk1 + 1 }) hat1 hlen fun h2 sb hat2 => ?_
    have e2 : (if one d ∈ acc.map one then acc.map one else one d :: acc.map one) = (if d ∈ acc then acc else d :: acc).map one := by
      by_cases z : d ∈ acc
      · rw [if_pos z, if_pos (mem_one.mpr z)]
      · rw [if_neg z, if_neg (fun q => z (mem_one.mp q))]
        rfl
    rw [e2] at hat2
    have k2 : ∀ b o, b ≠ S → h1.get? b = some o → h2.get? b = some o := fun b o hb e => (sb.2 b hb).trans e
    refine wpAny_pure ⟨plainId_quiet PyProof.Rows.F.plain_set_update_loop _, ih (i + 1) _ _ hr2 hlt hm (W.frame _ _ _ hst1 fun b hb o e => k2 b o (fun z => hS (z ▸ hb)) e) hat2 fun h3 tk3 k3 hat3 => ?_⟩
    exact hR h3 tk3 (fun b o hb hw e => k3 b o hb hw (k2 b o hb (k1 b o hw e))) hat3
end
end Tx

set_option Elab.async false
set_option linter.all false
set_option maxRecDepth 100000
set_option maxHeartbeats 3200000
/-! sets of texts: set(a text), sorted(it), as calls -/
namespace Tx
open PySem PySem.Spec PyProof.Rows L2

section
variable {P : Program} {w : World} {A : Around} {E : Value → Shared → Prop} {s : Shared}
theorem fresh_at (w : World) (h : Heap) (led : Bool) (hl : w.params.followText "set-order" = true ∨ led = true) :
    At w (h.push { cls := .type "set", dict := none, data := .set #[] 0 (.fresh 0 0 led) }) h.objs.size ([] : List Str) :=
  ⟨_, #[], 0, .fresh 0 0 led, Heap.get?_push_size _ rfl, ⟨rfl, rfl, rfl⟩, rfl, (fun e he => by simp at he), by simp, by decide, by rfl, List.Pairwise.nil, hl⟩

/-- a new set, as set.__new__ lays it -/
theorem new_set (v : Value) {R : Value → Shared → Prop}
    (h : R (.ref s.heap.objs.size) { s with heap := s.heap.push { cls := .type "set", dict := none, data := .set #[] 0 (.fresh 0 0 (!w.params.followText "set-order")) } }) :
    codeAny (model P w) A (.call (.builtin "set.__new__") ⟨[.type "set", v], []⟩) (wants R E) s := by
  refine codeAny_of_tree ?_
  show wpAny _ A.in1 (do
    checkBuiltinCall "set.__new__" ⟨[.type "set", v], []⟩
    again (.builtin "set.__new__" ⟨[.type "set", v], []⟩)) _ _ s
  refine wpAny_bind (wpAny_of_eq (F.newCall_set_1 v) (wpAny_pure ⟨plainId_quiet F.plain_set_new _, codeAny_builtin F.entry_set_new ?_⟩))
  rw [Around.under_plainId F.plain_set_new _]
  unfold Builtin.«set.__new__»
  unfold Builtin.Frozenset.newClass
  have hsub := sub_set_self
  obtain ⟨hp, g, d, tk, os⟩ := s
  dsimp only
  wp_walk
  refine wpAny_askSetting (wpAny_pure ?_)
  dsimp only
  simp only [newObj]
  exact wpAny_bind (wpAny_alloc (wpAny_pure (wpAny_pure h)))

theorem call_set_text {x : Str} {t : Tok} {Q : Value → Shared → Prop} (hh : A.handled = none) (hfew : (met [] x.cps.toList).length + 1 < scanBound)
    (h : ∀ (h' : Heap) (tk : Nat), At w h' s.heap.objs.size ((met [] x.cps.toList).map one) → (∀ b o, s.heap.get? b = some o → h'.get? b = some o) → Q (.ref s.heap.objs.size) { s with heap := h', toks := tk }) :
    wpAny (model P w) A (call (.type "set") [.str x t]) Q E s := by
  obtain ⟨c, tl, hmro⟩ := PySem.F.called_set.mro
  have hmade := PySem.F.called_set.made
  have hsub := PySem.F.called_set.sub
  refine wpAny_call (codeAny_of_tree ?_)
  show wpAny _ _ (callAny (.type "set") _) _ _ _
  refine wpAny_pure ⟨Code.quiet_builtin _ (by decide +kernel), codeAny_builtin PySem.F.entry_type_call ?_⟩
  rw [Around.under_plain (weight_type_call_type "set" [.str x t] []) rfl]
  have h1 := PySem.F.called_set.notType
  have h2 := PySem.F.called_set.canCreate
  have hct := PySem.F.typeCall_set_1 (.str x t)
  repeat (any_goals (first | assumption | wp_step))
  refine codeAny_mono (new_set (P := P) (w := w) (E := E) (.str x t) (R := fun obj z => ∃ led : Bool, (w.params.followText "set-order" = true ∨ led = true) ∧ obj = .ref s.heap.objs.size ∧ z = { s with heap := s.heap.push { cls := .type "set", dict := none, data := .set #[] 0 (.fresh 0 0 led) } }) ⟨_, ?_, rfl, rfl⟩) fun r z hr => ?_
  · cases w.params.followText "set-order"
    · exact .inr rfl
    · exact .inl rfl
  cases r with
  | error e => exact hr
  | ok fl =>
    cases fl with
    | ret obj =>
      obtain ⟨led, hled, rfl, rfl⟩ := hr
      have hS : (s.heap.push { cls := .type "set", dict := none, data := .set #[] 0 (.fresh 0 0 led) }).get? s.heap.objs.size = some { cls := .type "set", dict := none, data := .set #[] 0 (.fresh 0 0 led) } := Heap.get?_push_size _ rfl
      have hT : Shared.TypeIs { s with heap := s.heap.push { cls := .type "set", dict := none, data := .set #[] 0 (.fresh 0 0 led) } } (.ref s.heap.objs.size) "set" := ⟨_, hS, rfl⟩
      have hli := PySem.F.called_set.init.lookup
      have hbi := PySem.F.called_set.init.bind (.ref s.heap.objs.size)
      repeat (any_goals (first | assumption | wp_step))
      refine codeAny_mono (codeAny_call_builtin (R := wants (fun r z => r = .none ∧ ∃ h' tk, z = { s with heap := h', toks := tk } ∧ At w h' s.heap.objs.size ((met [] x.cps.toList).map one) ∧
          (∀ b o, s.heap.get? b = some o → h'.get? b = some o)) E) PySem.F.called_set.init.plain PySem.F.entry_set_init (check_set_init_1 hT ?_)) fun r₂ s₂ hr₂ => ?_
      · unfold Builtin.«set.__init__» noKeywords Builtin.Frozenset.updateFrom
        generalize hPI : pyIter = PI
        generalize hAS : Builtin.Frozenset.isAnySet = AS
        wp_walk
        subst hPI
        subst hAS
        refine L2.Fz.anySet ?_
        simp only [Bool.false_eq_true, ↓reduceIte]
        refine wpAny_bind (wpAny_typeOf (typeIs_str _ _ _) ?_)
        have hsd : (Value.type "str" == Value.type "dict") = false := by decide
        simp only [hsd, Bool.false_eq_true, ↓reduceIte]
        refine wpAny_bind (wpAny_pyIter_str fun o St W hst => ?_)
        refine wpAny_bind (wpAny_runValue ?_)
        have hne : s.heap.objs.size ∉ [(s.heap.push { cls := .type "set", dict := none, data := .set #[] 0 (.fresh 0 0 led) }).objs.size] := by
          rw [Heap.size_push, List.mem_singleton]
          exact Nat.ne_of_lt (Nat.lt_succ_self _)
        refine loop (W _ (by simp [hh])) s.heap.objs.size hne hfew _ 0 [] _ (by rfl) (Nat.zero_le _) rfl hst ?_ ?_
        · exact (fresh_at w s.heap led hled).stays fun o e => Heap.get?_push_of_some _ e
        · intro h' tk k hat
          refine wpAny_pure ?_
          show wpAny _ _ (ret Value.none) _ _ _
          refine wpAny_pure ⟨rfl, h', tk, rfl, hat, fun b o e => ?_⟩
          have hb := Heap.lt_size e
          refine k b o (Nat.ne_of_lt hb) ?_ (Heap.get?_push_of_some _ (Heap.get?_push_of_some _ e))
          rw [Heap.size_push, List.mem_singleton]
          exact Nat.ne_of_lt (Nat.lt_succ_of_lt hb)
      · cases r₂ with
        | error e => exact hr₂
        | ok fl₂ =>
          cases fl₂ with
          | ret r =>
            obtain ⟨rfl, h', tk, rfl, hS', hk'⟩ := hr₂
            repeat (any_goals (first | assumption | wp_step))
            exact h _ _ hS' hk'
          | _ => exact hr₂.elim
    | _ => exact hr.elim

/-! ### sorted(a set of one-sign texts) -/
theorem vals_strs {vs : List Value} : ∀ {es : List (Int × Value)}, (∀ e ∈ es, Ent w e) → vs.Perm (es.map (·.2)) → StrsAre vs (vs.map strOf) ∧ (vs.map strOf).Perm (es.map tx) := by
  intro es g p
  refine ⟨strsAre_map vs fun v hv => ?_, ?_⟩
  · obtain ⟨e, he, q⟩ := List.mem_map.mp (p.mem_iff.mp hv)
    obtain ⟨y, u, q1, _⟩ := g e he
    exact ⟨y, u, by rw [← q]; exact q1⟩
  · have q := p.map strOf
    rw [List.map_map] at q
    have e : es.map (strOf ∘ (·.2)) = es.map tx := List.map_congr_left fun e he => by
      obtain ⟨y, u, q1, _⟩ := g e he
      show strOf e.2 = tx e
      unfold tx
      rw [q1]
      rfl
    rw [e] at q
    exact q
theorem pairwise_of_sortedS : ∀ (l : List Str), sortedS l = true → l.Pairwise (fun a b => ltCps b.cps.toList a.cps.toList = false) := by
  have trans : ∀ a b c : List Nat, ltCps b a = false → ltCps c b = false → ltCps c a = false := by
    intro a b c h1 h2
    rw [ltCps_eq] at h1 h2 ⊢
    have h1' := of_decide_eq_false h1
    have h2' := of_decide_eq_false h2
    refine decide_eq_false fun z => ?_
    have n1 : a ≤ b := List.not_lt.mp h1'
    have n2 : b ≤ c := List.not_lt.mp h2'
    exact absurd z (List.not_lt.mpr (List.le_trans n1 n2))
  have all : ∀ (l : List Str) (p : Str), risingS p l = true → (p :: l).Pairwise (fun a b => ltCps b.cps.toList a.cps.toList = false) := by
    intro l
    induction l with
    | nil => intro p _; exact List.pairwise_singleton _ _
    | cons x r ih =>
      intro p h
      have h' : (!ltCps x.cps.toList p.cps.toList && risingS x r) = true := h
      rw [Bool.and_eq_true, Bool.not_eq_true'] at h'
      have q := ih x h'.2
      refine List.pairwise_cons.mpr ⟨fun y hy => ?_, q⟩
      rcases List.mem_cons.mp hy with z | z
      · rw [z]; exact h'.1
      · exact trans _ _ _ h'.1 ((List.pairwise_cons.mp q).1 y z)
  intro l h
  cases l with
  | nil => exact List.Pairwise.nil
  | cons x r => exact all r x h
theorem lt_one {c d : Nat} (h : ltCps (one d).cps.toList (one c).cps.toList = false) : c ≤ d := by
  rw [ltCps_eq] at h
  have q := of_decide_eq_false h
  rcases Nat.lt_or_ge d c with z | z
  · exact absurd (show [d] < [c] from List.cons_lt_cons_iff.mpr (.inl z)) q
  · exact z
/-- sorted one-sign texts, each once, are a rising row of signs -/
theorem rising {ss : List Str} {acc : List Nat} (p : ss.Perm (acc.map one)) (hs : sortedS ss = true) (hn : acc.Nodup) : ∃ ns : List Nat, ss = ns.map one ∧ ns.Perm acc ∧ ns.Pairwise (· < ·) := by
  have back : ∀ l : List Nat, (l.map one).map (fun y => y.cps.toList.headD 0) = l := by
    intro l
    rw [List.map_map]
    exact (List.map_congr_left fun c _ => rfl).trans (List.map_id l)
  have e : ss = (ss.map (fun y => y.cps.toList.headD 0)).map one := by
    rw [List.map_map]
    refine ((List.map_congr_left fun y hy => ?_).trans (List.map_id ss)).symm
    obtain ⟨c, _, q⟩ := List.mem_map.mp (p.mem_iff.mp hy)
    subst q
    rfl
  have pm : (ss.map (fun y => y.cps.toList.headD 0)).Perm acc := by
    have q := p.map (fun y => y.cps.toList.headD 0)
    rw [back] at q
    exact q
  refine ⟨_, e, pm, ?_⟩
  generalize ss.map (fun y => y.cps.toList.headD 0) = ns at e pm ⊢
  subst e
  have h1 := List.pairwise_map.mp (pairwise_of_sortedS _ hs)
  have h2 : ns.Nodup := pm.nodup_iff.mpr hn
  have h3 : ns.Pairwise (· ≠ ·) := h2
  refine List.Pairwise.imp₂ (fun x y a b => ?_) h1 h3
  have c := lt_one a
  omega

theorem sorted_text {a : Addr} {acc : List Nat} {Q : Value → Shared → Prop} (R : At w s.heap a (acc.map one)) (hn : acc.Nodup) (hh : A.handled = none) (h64 : acc.length < 64)
    (hQ : ∀ z p (out : Array Value) (c : Nat) (ns : List Nat), (∀ b o, s.heap.get? b = some o → z.heap.get? b = some o) → z.gens = s.gens → z.os = s.os → s.heap.objs.size ≤ p →
      z.heap.get? p = some (seqObj "list" out c) → StrsAre out.toList (ns.map one) → ns.Pairwise (· < ·) → ns.Perm acc → Q (.ref p) z) :
    wpAny (model P w) A (call (.builtin "sorted") [.ref a]) Q E s := by
  obtain ⟨o, es, ep, t, ho, hx, hd, g, pm, hb, hf, hr, hl⟩ := R
  refine Calls.call_function_entry kind_sorted plain_sorted entry_sorted (args_sorted1 _) ?_
  unfold Builtin.«sorted»
  refine wpAny_bind (m := checkCount "sorted" 1 1 _) (wpAny_pure ?_)
  refine wpAny_bind (collect_set (A := A.in1) hh ⟨o, ho, hx.1, hd⟩ hf hb hr hl fun s1 vs k1 hz g1 o1 pv => ?_)
  obtain ⟨hS, ps⟩ := vals_strs (w := w) g pv
  have ps2 := ps.trans pm
  have hvl : vs.length < 64 := by
    have q := ps2.length_eq
    rw [List.length_map, List.length_map] at q
    rw [q]; exact h64
  refine wpAny_bind (wpAny_newList ?_ (by rw [sizeLine_eq]; omega))
  have hoL : (s1.heap.push (seqObj "list" vs.toArray 0)).get? s1.heap.objs.size = some (seqObj "list" vs.toArray 0) := Heap.get?_push_size _ rfl
  refine wpAny_bind (wpAny_holding (wpAny_call_entry slot_list_sort ⟨_, hoL, rfl⟩ entry_list_sort
    (list_sort_treeK strKind_oneLt hoL hS.keysOf (fun v₁ v₂ rest e => keyKind_strs (by rw [← e]; exact hS)) hvl fun st' hp hs => ⟨_, rfl, ?_⟩) (args_list_sort _)))
  obtain ⟨ss, b1, b2, b3⟩ := sorted_out_str hS hp hs
  obtain ⟨ns, e, pn, ris⟩ := rising (b2.trans ps2) b3 hn
  subst e
  obtain ⟨c, hc⟩ := sortedHeap_at (vs := vs) (out := (arrOf st').map (·.2)) hoL
  refine wpAny_pure ⟨_, rfl, hQ _ s1.heap.objs.size _ c ns (fun b u e => ?_) g1 o1 hz hc b1 ris pn⟩
  have q := k1 b u e
  have hlt := Heap.lt_size q
  show (sortedHeap (s1.heap.push (seqObj "list" vs.toArray 0)) s1.heap.objs.size vs _).get? b = some u
  rw [sortedHeap_old (Nat.ne_of_lt hlt) (by rw [size_push']; exact Nat.lt_succ_of_lt hlt)]
  exact Heap.get?_push_of_some _ q
end
end Tx

set_option Elab.async false
set_option linter.all false
set_option maxRecDepth 100000
set_option maxHeartbeats 3200000
/-! defs that show data by repr: what is known of a call's guards goes along -/
namespace Tg
open PySem PySem.Spec PyProof.Rows L2

/-- nothing is being shown where the call stands -/
abbrev Still (A : Around) : Prop := A.guards = some []

/-- a def's promise, kept where nothing is being shown -/
structure Kept (P : Program) (w : World) (K : PySem.W.Frag) (mg : Str → Option Value) (base : Heap) (cx : CXT) (k : Nat) (f : Addr) (fd : FuncData) (ps : List Str) (sp : Sp) : Prop where
  long : ∀ xs H Q E, sp xs H Q E → xs.length = ps.length
  goes : ∀ (A : Around) (out : List Env) (s : Shared) (H : Hp) (args : Args) (us : List Value) (xs : List V) (Q : VK) (E : XK), Room k A → Still A → Env0 P w K mg base A out s H →
    BindsTo s fd args (ps.zip us) → Vals xs us → sp xs H Q E → codeAny (model P w) A (.call (.ref f) args) (CR cx out P w H s Q E) s

section
variable {P : Program} {w : World} {K : PySem.W.Frag} {mg : Str → Option Value} {base : Heap}
theorem Kept.ok {cx : CXT} {k : Nat} {f : Addr} {name qual : Str} {params : Arguments} {body : List Stmt} {scope : Scope} {dV kV doc pm cdv ct oc : Value} {an od : Option Addr}
    {osl : Array (Option Value)} {N ps : List Str} {sp : Sp}
    (look : K.lookup f = some ⟨oc, od, .func (PySem.W.fnOf name qual params body scope dV kV doc pm an cdv ct), osl⟩)
    (code : PySem.W.codeIn K cdv qual = true) (S : FnScope N ps scope) (long : ∀ xs H Q E, sp xs H Q E → xs.length = ps.length)
    (inner : ∀ (A : Around) (out : List Env) (s : Shared) (H : Hp) (xs : List V) (Q : VK) (E : XK), Room k (A.deeper (envOfC qual scope s.heap.objs.size f cdv)) →
      Still (A.deeper (envOfC qual scope s.heap.objs.size f cdv)) → sp xs H Q E →
      ∃ t, PSs (cxOf cx P w K mg base N qual scope f cdv A out s H E) body t ∧ t { nx := fun _ H2 => Q .non H2, rt := Q } (start N xs) H) :
    Kept P w K mg base cx (k + 1) f (PySem.W.fnOf name qual params body scope dV kV doc pm an cdv ct) ps sp where
  long := long
  goes := by
    intro A out s H args us xs Q E room still e0 bound rel hsp
    have hl := long _ _ _ _ hsp
    have inK : K.In s.heap := e0.mod.kin.keeps fun b o e => (e0.bs b o e).1
    have limit : s.heap.NoLimit := e0.mod.nolimit.keeps fun b o e => (e0.bs b o e).1
    have kinds : ∀ y ∈ ps.zip us, scope.names.lookup y.1 = some .local ∨
        (scope.names.lookup y.1 = some .cell ∧ ((cellsFrom (s.heap.objs.size + 1) scope.names []).lookup y.1).isSome = true) := by
      rintro ⟨n, v⟩ hy
      cases S.par n (List.of_mem_zip hy).1 with
      | inl q => exact .inl q
      | inr q => exact .inr ⟨q, PySem.W.cellsFrom_some _ _ _ (.inl q)⟩
    refine codeAny_call_function room.depth (inK _ _ look) rfl S.co S.gen rfl (PySem.W.codeRec_of inK code) (bound _ _ _ _ ?_)
    refine wpAny_newFunctionEnv_cells S.kind kinds fun env he z x => ?_
    subst he
    refine ⟨limit.keeps x.toInCall.keep, codeAny_func ?_⟩
    obtain ⟨t, ht, hq⟩ := inner A out s H xs Q E (room.deeper _) still hsp
    have J0 : Inv (cxOf cx P w K mg base N qual scope f cdv A out s H E) [] (start N xs) H z := inv_start S room.hd e0 hl rel x
    refine wpAny_mono (ht.run [] z (start N xs) H _ J0 hq) (fun fl z' hs => ?_) fun e z' hs => hs
    have close : ∀ {σ' : L2.St} {H2 : Hp} {v : V} {u : Value}, Inv (cxOf cx P w K mg base N qual scope f cdv A out s H E) [] σ' H2 z' → RelV v u → Q v H2 → CE out P w H s Q u z' := by
      intro σ' H2 v u J rv q
      exact ⟨v, H2, J.os, J.bare, J.base, J.hok, rv, q⟩
    cases fl with
    | ret u =>
      obtain ⟨v, σ', H2, J, rv, q⟩ := hs
      exact close J rv q
    | next =>
      obtain ⟨σ', H2, J, q⟩ := hs
      exact close (v := V.non) (u := Value.none) J rfl q
    | brk =>
      obtain ⟨_, _, _, q⟩ := hs
      exact q.elim
    | cont =>
      obtain ⟨_, _, _, q⟩ := hs
      exact q.elim

/-- for a def of the text that lets nothing out -/
theorem Kept.fn {x qual : Str} {st : Stmt} {f : Addr} {fd : FuncData} {N ps : List Str} {k : Nat} {sp : Sp} (F : Fun K x qual st f fd) (S : FnScope N ps (defScope st))
    (long : ∀ xs H Q E, sp xs H Q E → xs.length = ps.length)
    (inner : ∀ (cdv : Value) (A : Around) (out : List Env) (s : Shared) (H : Hp) (xs : List V) (Q : VK) (E : XK), Room k (A.deeper (envOfC qual (defScope st) s.heap.objs.size f cdv)) →
      Still (A.deeper (envOfC qual (defScope st) s.heap.objs.size f cdv)) → sp xs H Q E →
      ∃ t, PSs (cxOf CX0 P w K mg base N qual (defScope st) f cdv A out s H E).nox (defBody st) t ∧ t { nx := fun _ H2 => Q .non H2, rt := Q } (start N xs) H) :
    Kept P w K mg base CX0 (k + 1) f fd ps sp := by
  obtain ⟨oc, od, kV, doc, pm, an, cdv, ct, osl, e, look, code⟩ := F.ex
  subst e
  refine Kept.ok look code S long fun A out s H xs Q E room still hsp => ?_
  obtain ⟨t, h, q⟩ := inner cdv A out s H xs Q E room still hsp
  exact ⟨t, h.nox, q⟩
end

section
variable {X : Cx} {cx : CXT} {k : Nat} {f : Addr} {fd : FuncData} {ps : List Str} {sp : Sp} {dvs : List V} {ds : List Value} {E : XK} {x : Str} {p pos : Pos} {e : Expr} {es : List Expr} {t : TA}
theorem Kept.runs {pins : List (Addr × Obj)} {σ : L2.St} {H : Hp} {s : Shared} {Q : VK} {us : List Value} {xs : List V} (F : Kept X.prog X.w X.K X.mg X.base cx k f fd ps sp) (room : Room k X.A) (still : Still X.A)
    (hb : Binds X.K fd ps ds) (hd : Vals dvs ds) (hx : Passes cx X E) (I : Inv X pins σ H s) (r : Vals xs us) (h : sp (xs ++ dvs) H Q E) :
    wpAny (model X.prog X.w) X.A (call (.ref f) us) (EP X pins σ Q) X.xe s := by
  have r2 : Vals (xs ++ dvs) (us ++ ds) := r.append hd
  have hl : (us ++ ds).length = ps.length := r2.length.symm.trans (F.long _ _ _ _ h)
  refine wpAny_call (codeAny_mono (F.goes X.A X.stack s H ⟨us, []⟩ (us ++ ds) (xs ++ dvs) Q E room still I.env0 (hb s us I.kIn hl) r2 h) fun r z hq => ?_)
  match r, hq with
  | .error e, hq => exact hx pins σ H s e z I hq
  | .ok (.ret u), hq => exact I.after hq
  | .ok .next, hq => exact False.elim hq
  | .ok .brk, hq => exact False.elim hq
  | .ok .cont, hq => exact False.elim hq
/-- f(e, ..) of such a def -/
theorem pe_callG (F : Kept X.prog X.w X.K X.mg X.base cx k f fd ps sp) (room : Room k X.A) (still : Still X.A) (hg : Gl X x) (hm : X.mg x = some (.ref f)) (hk : PySem.W.keepIn X.K (.ref f) = true)
    (hb : Binds X.K fd ps ds) (hd : Vals dvs ds) (hx : Passes cx X E) (ha : PA X (e :: es) t) (hdb : (x == ("__debug__" : Str)) = false := by decide)
    (he : starEach (e :: es) X.env = (false, eval e X.env) :: starEach es X.env := by rfl) (hpl : (backTo pos (starEach es X.env)).any (·.1) = false := by rfl) :
    PE X (.Call (.Name x p) (e :: es) [] pos) (tCall sp dvs E t) := by
  constructor
  intro pins s σ H Q I h
  refine wpAny_Call_Name_kw (ld_glob I hg hm ?_ hdb)
  refine PySem.W.callWith_K (h₀ := X.base) I.ok.mod.kin hk ?_ he hpl
  exact thn (ha.run pos pins s σ H _ I h) fun us z ⟨xs, H1, J, r, q⟩ => ⟨J.kIn, F.runs room still hb hd hx J r q⟩

/-- data as it stands in the abstract heap: none, bools, ints, texts, lists, tuples, and dicts of texts and ints -/
inductive Data (K : PySem.W.Frag) (H : Hp) : V → PyData → Prop
  | flat {v : V} {d : PyData} (h : Dp K H v d) (n : d.hasDict = false) : Data K H v d
  | dict {a : Addr} {kvs : List (Str × Int)} (h : H a = some (.dK (kvs.map fun p => (Sum.inr p.1, V.int p.2)))) : Data K H (.ref a) (.dict (kvs.map fun p => (.str p.1, .int p.2)))

theorem keys_flat (h : Heap) : ∀ (kvs : List (Str × Int)) (es : List DictEntry) (vs : List (Key × Value)), Pairs (mixKind X.prog X.w) es vs → KV (kvs.map fun p => (Sum.inr p.1, V.int p.2)) vs →
    ReadsAll h (es.map (·.key)) ((kvs.map fun p => ((PyData.str p.1, PyData.int p.2) : PyData × PyData)).map (·.1)) [] ∧ ReadsAll h (es.map (·.val)) ((kvs.map fun p => ((PyData.str p.1, PyData.int p.2) : PyData × PyData)).map (·.2)) [] := by
  intro kvs
  induction kvs with
  | nil =>
    intro es vs hp rel
    cases rel
    cases hp
    exact ⟨.nil, .nil⟩
  | cons p kvs ih =>
    intro es vs hp rel
    cases rel with
    | @cons _ kv _ vs' r1 r2 =>
      cases hp with
      | @cons e _ es' _ hk hv hp' =>
        obtain ⟨q1, q2⟩ := ih _ _ hp' r2
        obtain ⟨k0, v0⟩ := kv
        obtain ⟨r3, r4⟩ := r1
        dsimp only at r3 r4 hk hv
        subst r3
        obtain ⟨t, r4⟩ := r4
        rcases keyIs_shape (show keyIs (Sum.inr p.1 : Key) e.key = true from hk) with ⟨i, t', z, _⟩ | ⟨x, t', z, e'⟩
        · cases z
        · cases z
          refine ⟨?_, ?_⟩
          · show ReadsAll h (e.key :: _) (PyData.str p.1 :: _) ([] ++ [])
            rw [e']
            exact .cons (.str _ _) q1
          · show ReadsAll h (e.val :: _) (PyData.int p.2 :: _) ([] ++ [])
            rw [hv, r4]
            exact .cons (.int _ _) q2
theorem Data.reads {pins : List (Addr × Obj)} {σ : L2.St} {H : Hp} {s : Shared} (I : Inv X pins σ H s) {v : V} {u : Value} {d : PyData} (h : Data X.K H v d) (r : RelV v u) :
    ∃ as, Reads s.heap u d as ∧ (d.hasDict = true → sysModules ∉ as) := by
  cases h with
  | flat h n =>
    obtain ⟨as, q⟩ := Dp.reads I d v u h r
    exact ⟨as, q, fun z => by rw [n] at z; cases z⟩
  | @dict a kvs h =>
    cases r
    obtain ⟨hz, hs, vs, rel, o, es, ep, ho, hx, hd, _, hp, _⟩ := I.hok a _ h
    obtain ⟨q1, q2⟩ := keys_flat (X := X) s.heap kvs _ _ hp rel
    refine ⟨_, Reads.dict ho hx.1 hd q1 q2, fun _ z => ?_⟩
    simp only [List.append_nil, List.mem_singleton] at z
    rw [z] at hs
    simp at hs

/-- repr(x) -/
def rShow (K : PySem.W.Frag) : List V → Hp → VK → Prop := fun xs H Q => ∃ (x : V) (d : PyData), xs = [x] ∧ Data K H x d ∧ d.showable = true ∧ d.depth < 60 ∧ d.shown.length ≤ sizeLine ∧ Q (.str d.shown) H
theorem call_show (still : Still X.A) (hu : X.A.units + 64 < cLine) : CallR X (.builtin "repr") (rShow X.K) := by
  intro pins s σ H xs us Q I r h
  obtain ⟨x, d, rfl, hd, h1, h3, h4, q⟩ := h
  obtain ⟨u, rfl, r1⟩ : ∃ u, us = [u] ∧ RelV x u := by
    cases r with
    | cons a b => cases b; exact ⟨_, rfl, a⟩
  obtain ⟨as, rd, hsm⟩ := Data.reads I hd r1
  cases rd with
  | none => exact P.repr_of_none ⟨.str (PyData.shown .none), H, I.tok _, ⟨_, rfl⟩, q⟩
  | bool b => exact P.repr_of_bool ⟨.str (PyData.shown (.bool b)), H, I.tok _, ⟨_, rfl⟩, q⟩
  | int i t => exact P.repr_of_int (of_decide_eq_true h1) ⟨.str (PyData.shown (.int i)), H, I.tok _, ⟨_, rfl⟩, q⟩
  | str z t => exact P.repr_of_str ⟨.str (PyData.shown (.str z)), H, I.tok _, ⟨_, rfl⟩, q⟩ h4
  | list a1 a2 a3 a4 => exact repr_of_reads' (Reads.list a1 a2 a3 a4) h1 hsm still (by omega) (fun _ _ e => e) (fun h' u tk hk => ⟨.str (PyData.shown _), H, I.kept (t' := tk) hk, ⟨_, rfl⟩, q⟩) h4
  | tuple a1 a2 a3 a4 => exact repr_of_reads' (Reads.tuple a1 a2 a3 a4) h1 hsm still (by omega) (fun _ _ e => e) (fun h' u tk hk => ⟨.str (PyData.shown _), H, I.kept (t' := tk) hk, ⟨_, rfl⟩, q⟩) h4
  | dict a1 a2 a3 a4 a5 => exact repr_of_reads' (Reads.dict a1 a2 a3 a4 a5) h1 hsm still (by omega) (fun _ _ e => e) (fun h' u tk hk => ⟨.str (PyData.shown _), H, I.kept (t' := tk) hk, ⟨_, rfl⟩, q⟩) h4
end

/-! ### the head: the law's call, nothing being shown -/
section
variable {P : Program} {w : World} {K : PySem.W.Frag} {mg mb : Str → Option Value} {cx : CXT} {k : Nat} {fa a : Addr} {fd : FuncData} {x : Str} {sp : Sp} {s₁ : Shared} {vs : List Value} {ns : List Int}
/-- from one abstract heap in which at most the script stands -/
theorem law_core (KX : K.In s₁.heap) (hns : s₁.heap.Ns mainGlobals mg) (hb : s₁.heap.Ns builtinsNs mb) (hbb : ∀ x : Str, x ≠ "__name__" → mb x = bootBuiltins x) (hlim : s₁.heap.NoLimit) (hg : s₁.gens = #[])
    (ha : s₁.heap.get? a = some { cls := .type "list", data := .seq vs.toArray }) (room : Room k callerA)
    (F : ∀ base : Heap, K.In base → base.Ns mainGlobals mg → Kept P w K mg base cx k fa fd [x] sp) (hbind : ∀ (s : Shared) (u : Value), BindsTo s fd ⟨[u], []⟩ [(x, u)])
    (hcx : ∀ H e z, cx [] H s₁ (fun _ _ _ => False) e z → False)
    (H : Hp) (only : Only H) (want : sp [.ref a] H (fun v _ => v = .bl true) fun _ _ _ => False) (hok : HOk P w H s₁.heap) (at_a : ∀ b, H b ≠ none → b = a) (notK : H a ≠ none → K.lookup a = none) :
    codeAny (model P w) callerA (.call (.ref fa) ⟨[.ref a], []⟩) (fun r z => r = .ok (.ret (.bool true)) ∧ OldK s₁.heap z.heap ∧ z.os = s₁.os ∧ AllBare z.gens) s₁ := by
  have under : ∀ {b : Addr} {o : Obj}, s₁.heap.get? b = some o → H b = none → (hidT s₁.heap H).get? b = some o := fun e n => hidT_get e n
  have away : ∀ {b : Addr}, (b = a → False) → H b = none := by
    intro b n
    cases q : H b with
    | none => rfl
    | some u => exact (n (at_a b (by rw [q]; simp))).elim
  have noDict : ∀ {b : Addr} {o : Obj} {es : Array DictEntry} {ep : Nat}, s₁.heap.get? b = some o → o.data = .dict es ep → H b = none := by
    intro b o es ep e d
    refine away fun z => ?_
    subst z
    rw [ha] at e
    cases e
    cases d
  have names : ∀ {b : Addr} {m : Str → Option Value}, s₁.heap.Ns b m → (hidT s₁.heap H).Ns b m := by
    rintro b m ⟨o, es, ep, e, d, r⟩
    exact ⟨o, es, ep, under e (noDict e d), d, r⟩
  have inB : K.In (hidT s₁.heap H) := by
    intro b o e
    refine under (KX b o e) ?_
    cases q : H b with
    | none => rfl
    | some u =>
      have z := at_a b (by rw [q]; simp)
      subst z
      have n := notK (by rw [q]; simp)
      rw [n] at e
      cases e
  have md : Mod K mg (hidT s₁.heap H) := ⟨inB, names hns, ⟨mb, names hb, hbb⟩, let ⟨mc, h1, h2⟩ := hlim; ⟨mc, names h1, h2⟩⟩
  have e0 : Env0 P w K mg (hidT s₁.heap H) callerA [] s₁ H := by
    refine ⟨rfl, md, fun b o e => of_hidT e, Nat.le_of_eq (hidT_size _ _), trivial, fun b hb => ?_, hok, .of_eq hg⟩
    exact absurd (show b ∈ ([] : List Addr) from hb) (by simp)
  refine codeAny_mono ((F _ inB (names hns)).goes callerA [] s₁ H ⟨[.ref a], []⟩ [.ref a] [.ref a] _ _ room rfl e0 (hbind s₁ (.ref a)) (.cons rfl .nil) want) fun r z h => ?_
  match r, h with
  | .error e, h => exact (hcx H e z h).elim
  | .ok .next, h => exact False.elim h
  | .ok .brk, h => exact False.elim h
  | .ok .cont, h => exact False.elim h
  | .ok (.ret u), h =>
    obtain ⟨v, H2, os, bare, un, hok2, r2, q⟩ := h
    have q' : v = .bl true := q
    subst q'
    obtain rfl : u = Value.bool true := r2
    refine ⟨rfl, OldK.of_keep fun b o e => ?_, os, bare⟩
    cases q : H b with
    | none =>
      refine un.keep b o e q (fun y => ?_) (by simp)
      exact absurd (show b ∈ ([] : List Addr) from y) (by simp)
    | some u =>
      rcases only b with y | ⟨ob, xs, y⟩
      · rw [q] at y
        cases y
      · have y2 := un.frzs b ob _ y
        obtain ⟨e1, _⟩ := hok b _ y
        obtain ⟨e2, _⟩ := hok2 b _ y2
        rw [e] at e1
        cases e1
        exact e2

theorem law_call (KX : K.In s₁.heap) (hns : s₁.heap.Ns mainGlobals mg) (hb : s₁.heap.Ns builtinsNs mb) (hbb : ∀ x : Str, x ≠ "__name__" → mb x = bootBuiltins x) (hlim : s₁.heap.NoLimit) (hg : s₁.gens = #[])
    (ha : s₁.heap.get? a = some { cls := .type "list", data := .seq vs.toArray }) (hi : IntsAre vs ns) (hl : ns.length ≤ sizeLine) (room : Room k callerA)
    (F : ∀ base : Heap, K.In base → base.Ns mainGlobals mg → Kept P w K mg base cx k fa fd [x] sp) (hbind : ∀ (s : Shared) (u : Value), BindsTo s fd ⟨[u], []⟩ [(x, u)])
    (hsp : ∀ H : Hp, Only H → SqL K H a (ns.map V.int) → sp [.ref a] H (fun v _ => v = .bl true) fun _ _ _ => False)
    (hcx : ∀ H e z, cx [] H s₁ (fun _ _ _ => False) e z → False) :
    codeAny (model P w) callerA (.call (.ref fa) ⟨[.ref a], []⟩) (fun r z => r = .ok (.ret (.bool true)) ∧ OldK s₁.heap z.heap ∧ z.os = s₁.os ∧ AllBare z.gens) s₁ := by
  have rel := vals_ints hi
  have len := hi.length
  have core := law_core KX hns hb hbb hlim hg ha room F hbind hcx
  cases hk : K.lookup a with
  | some o =>
    have e := KX a o hk
    rw [ha] at e
    cases e
    have only : Only (fun _ => none) := fun _ => .inl rfl
    refine core (fun _ => none) only (hsp _ only ?_) (fun b u z => nomatch (show (none : Option HO) = some u from z)) (fun b z => absurd rfl z) fun z => absurd rfl z
    exact .inr ⟨_, vs.toArray, _, hk, rfl, rfl, rfl, by rw [List.size_toArray, len]; exact hl, by simpa using rel⟩
  | none =>
    have only : Only (fun b => if b = a then some (.frz { cls := .type "list", data := .seq vs.toArray } (.lst (ns.map V.int))) else none) := by
      intro b
      by_cases z : b = a
      · exact .inr ⟨_, _, if_pos z⟩
      · exact .inl (if_neg z)
    refine core _ only (hsp _ only ?_) (fun b u z => ?_) (fun b z => ?_) fun _ => hk
    · exact .inl (.inr ⟨{ cls := .type "list", data := .seq vs.toArray }, if_pos rfl⟩)
    · by_cases y : b = a
      · have z' := (if_pos y).symm.trans z
        cases z'
        subst y
        exact ⟨ha, by rw [List.length_map]; exact hl, vs, _, rel, ha⟩
      · have z' := (if_neg y).symm.trans z
        cases z'
    · by_cases y : b = a
      · exact y
      · exact absurd (if_neg y) z
end

/-- the goal that the head leaves -/
theorem walk {l : PySem.W.OpenLaw} {n k : Nat} {q : Program} {loose : List Str} {XP : (Str → Option Value) → Heap → Prop} {YP : World → Heap → Prop} {d : DefRec} {K : Params → PySem.W.Frag} {cx : World → CXT} {sp : World → Sp} {x : Str}
    (hn : l.most = some n) (hn2 : n ≤ sizeLine) (hdf : d.params.defaults = []) (room : Room k callerA) (hY : ∀ (w : World) (h : Heap), YP w h → (K w.params).In h)
    (F : ∀ (w : World) (mg : Str → Option Value) (fa : Addr) (h : Heap), (K w.params).In h → h.Ns mainGlobals mg → mg d.name = some (.ref fa) → XP mg h →
      ∃ fd : FuncData, (∀ (s : Shared) (u : Value), BindsTo s fd ⟨[u], []⟩ [(x, u)]) ∧
        ∀ base : Heap, (K w.params).In base → base.Ns mainGlobals mg → Kept l.prog w (K w.params) mg base (cx w) k fa fd [x] (sp w))
    (hsp : ∀ (w : World) (H : Hp) (a : Addr) (ns : List Int), ns.length ≤ n → Only H → SqL (K w.params) H a (ns.map V.int) → sp w [.ref a] H (fun v _ => v = .bl true) fun _ _ _ => False)
    (hcx : ∀ (w : World) (H : Hp) (s : Shared) (e : Value) (z : Shared), cx w [] H s (fun _ _ _ => False) e z → False) :
    PySem.W.WalkO q loose XP YP l.row.toRowW d [] (fun f vs => PySem.call f vs) := by
  refine Att.attach_call hn hdf ?_
  intro w s₀ s₁ mg mb fa o pm cd doc a vs ns G Y ho hd hcd hmg hobj hints hlen hg
  have KX := hY w _ Y
  obtain ⟨fd, hb, hF⟩ := F w mg fa _ KX G.T.g hmg G.X
  exact law_call KX G.T.g G.T.b G.T.builtins G.T.nolimit hg hobj hints (Nat.le_trans hlen hn2) room hF hb (fun H hO hS => hsp w H a ns hlen hO hS) fun H e z => hcx w H s₁ e z
end Tg

set_option Elab.async false
set_option linter.all false
set_option maxRecDepth 100000
set_option maxHeartbeats 3200000
/-! set(a text), sorted(it), list(a text), as rules -/
namespace Tx
open PySem PySem.Spec PyProof.Rows L2

/-- the signs of a text, each once, rising -/
def ups (l : List Nat) : List Nat := (met [] l).mergeSort (fun a b => decide (a ≤ b))
theorem ups_perm (l : List Nat) : (ups l).Perm (met [] l) := List.mergeSort_perm _ _
theorem ups_mem (l : List Nat) (c : Nat) : c ∈ ups l ↔ c ∈ l := by
  rw [(ups_perm l).mem_iff, met_mem]
  simp
theorem ups_nodup (l : List Nat) : (ups l).Nodup := (ups_perm l).nodup_iff.mpr (met_nodup l [] List.nodup_nil)
theorem ups_up (l : List Nat) : (ups l).Pairwise (· < ·) := by
  have h1 : (ups l).Pairwise (fun a b => decide (a ≤ b) = true) :=
    List.pairwise_mergeSort (le := fun a b : Nat => decide (a ≤ b)) (fun a b c h1 h2 => by
      have h1' := of_decide_eq_true h1
      have h2' := of_decide_eq_true h2
      exact decide_eq_true (Nat.le_trans h1' h2')) (fun a b => by
      rcases Nat.le_total a b with z | z
      · simp [z]
      · simp [z]) (met [] l)
  have h2 : (ups l).Pairwise (· ≠ ·) := ups_nodup l
  refine List.Pairwise.imp₂ (fun x y a b => ?_) h1 h2
  have a' := of_decide_eq_true a
  omega
theorem up_eq : ∀ {l m : List Nat}, l.Pairwise (· < ·) → m.Pairwise (· < ·) → (∀ c, c ∈ l ↔ c ∈ m) → l = m
  | [], [], _, _, _ => rfl
  | [], y :: m, _, _, h => by have := (h y).mpr List.mem_cons_self; simp at this
  | x :: l, [], _, _, h => by have := (h x).mp List.mem_cons_self; simp at this
  | x :: l, y :: m, h1, h2, h => by
    obtain ⟨a1, a2⟩ := List.pairwise_cons.mp h1
    obtain ⟨b1, b2⟩ := List.pairwise_cons.mp h2
    have e : x = y := by
      rcases List.mem_cons.mp ((h x).mp List.mem_cons_self) with z | z
      · exact z
      · rcases List.mem_cons.mp ((h y).mpr List.mem_cons_self) with u | u
        · exact u.symm
        · have := a1 y u
          have := b1 x z
          omega
    subst e
    rw [up_eq a2 b2 fun c => ?_]
    constructor
    · intro q
      rcases List.mem_cons.mp ((h c).mp (List.mem_cons_of_mem _ q)) with z | z
      · subst z
        exact absurd (a1 _ q) (Nat.lt_irrefl _)
      · exact z
    · intro q
      rcases List.mem_cons.mp ((h c).mpr (List.mem_cons_of_mem _ q)) with z | z
      · subst z
        exact absurd (b1 _ q) (Nat.lt_irrefl _)
      · exact z
theorem ups_of {l ns : List Nat} (h : ns.Pairwise (· < ·)) (p : ns.Perm (met [] l)) : ns = ups l :=
  up_eq h (ups_up l) fun c => by rw [p.mem_iff, ups_mem, met_mem]; simp

/-- one-sign texts as values -/
abbrev ones (l : List Nat) : List V := l.map fun c => V.str (one c)
theorem ones_map (l : List Nat) : ones l = (l.map one).map V.str := by rw [List.map_map]; rfl

/-- the set of texts at a -/
def TO (w : World) (a : Addr) (acc : List Nat) : HO := .ext fun h => At w h a (acc.map one)
section
variable {X : Cx}
theorem to_new {w : World} {P : Program} {H : Hp} {h : Heap} {a : Addr} {acc : List Nat} (R : At w h a (acc.map one)) : ObjOk P w H h a (TO w a acc) :=
  ⟨R, let ⟨o, _, _, _, ho, _⟩ := R; ⟨o, ho⟩, fun _ _ p k => At.stays p k⟩
/-- set(s), s a text of few different signs -/
def rSetTx (w : World) : List V → Hp → VK → Prop := fun xs H Q => ∃ z : Str, xs = [.str z] ∧ (met [] z.cps.toList).length < 64 ∧ ∀ p, H p = none → Q (.ref p) (upd H p (TO w p (met [] z.cps.toList)))
theorem cr_setTx (hc : X.calm = true) : CallR X (.type "set") (rSetTx X.w) := by
  intro pins s σ H xs us Q I r h
  obtain ⟨z, rfl, hf, q⟩ := h
  obtain ⟨t, rfl⟩ : ∃ t, us = [Value.str z t] := by
    cases r with
    | cons a b =>
      cases b
      obtain ⟨t, rfl⟩ := a
      exact ⟨t, rfl⟩
  have hb : (met [] z.cps.toList).length + 1 < scanBound := by
    have : (64 : Nat) + 1 < scanBound := by decide
    omega
  refine call_set_text (P := X.prog) (w := X.w) (I.ok.hd hc) hb fun h' tk R k => ?_
  exact ⟨.ref _, upd H s.heap.objs.size (TO X.w s.heap.objs.size (met [] z.cps.toList)), I.laid (t' := tk) k (Nat.le_refl _) (to_new R), rfl, q _ (I.hok.fresh (Nat.le_refl _))⟩
/-- sorted(a set of texts) -/
def rSortTx (w : World) : List V → Hp → VK → Prop := fun xs H Q => ∃ (a : Addr) (l : List Nat), xs = [.ref a] ∧ H a = some (TO w a (met [] l)) ∧ (met [] l).length < 64 ∧ ∀ p, H p = none → Q (.ref p) (upd H p (.lst (ones (ups l))))
theorem cr_sortTx (hc : X.calm = true) : CallR X (.builtin "sorted") (rSortTx X.w) := by
  intro pins s σ H vs us Q I r h
  obtain ⟨a, l, rfl, ha, h64, q⟩ := h
  have R : At X.w s.heap a ((met [] l).map one) := (I.hok a _ ha).1
  rw [Vals.ref1 r]
  refine sorted_text (P := X.prog) R (met_nodup l [] List.nodup_nil) (I.ok.hd hc) h64 fun z p out c ns k g o hp hg hS up pm => ?_
  obtain rfl := ups_of up pm
  have hlen : (ones (ups l)).length ≤ sizeLine := by
    rw [List.length_map, pm.length_eq, sizeLine_eq]
    omega
  have hn : H p = none := I.hok.fresh hp
  have hv : Vals (ones (ups l)) out.toList := by rw [ones_map]; exact vals_of_strs hS
  have J : Inv X pins σ (upd H p (.lst (ones (ups l)))) { s with heap := z.heap, gens := z.gens, drawn := z.drawn, toks := z.toks } :=
    I.call (ch := []) (Un.laid k hp hn) (I.hok.laid k hp ⟨hlen, out.toList, c, hv, hg⟩) (by rw [g]; exact I.bare) (fun _ y => nomatch y)
  have e : z = { s with heap := z.heap, gens := z.gens, drawn := z.drawn, toks := z.toks } := by
    cases z
    cases s
    cases o
    rfl
  rw [e]
  exact ⟨.ref p, _, J, rfl, q p hn⟩
/-- list(s), s a text -/
def rListTx : List V → Hp → VK → Prop := fun xs H Q => ∃ z : Str, xs = [.str z] ∧ z.length ≤ sizeLine ∧ ∀ p, H p = none → Q (.ref p) (upd H p (.lst (ones z.cps.toList)))
theorem signs_vals {z : Str} {acc : Array Value} (h : ItemsOf (SignAt z) acc z.cps.size) : Vals (ones z.cps.toList) acc.toList := by
  have all : ∀ (l : List Nat) (us : List Value), us.length = l.length → (∀ (j : Nat) (v : Value), us[j]? = some v → ∃ (c : Nat) (u : Tok), l[j]? = some c ∧ v = Value.str (one c) u) → Vals (ones l) us := by
    intro l
    induction l with
    | nil =>
      intro us hl _
      cases us with
      | nil => exact .nil
      | cons u us => simp at hl
    | cons c l ih =>
      intro us hl hg
      cases us with
      | nil => simp at hl
      | cons u us =>
        obtain ⟨d, t, h1, h2⟩ := hg 0 u rfl
        have e : c = d := Option.some.inj h1
        subst e
        refine .cons ⟨t, h2⟩ (ih us (by simpa using hl) fun j v hv => ?_)
        exact hg (j + 1) v hv
  refine all _ _ (by rw [Array.length_toList, Array.length_toList]; exact h.1) fun j v hv => ?_
  rw [Array.getElem?_toList] at hv
  obtain ⟨c, u, h1, h2⟩ := h.2 j v hv
  exact ⟨c, u, by rw [Array.getElem?_toList]; exact h1, h2⟩
theorem cr_listTx (hc : X.calm = true) : CallR X (.type "list") rListTx := by
  intro pins s σ H xs us Q I r h
  obtain ⟨z, rfl, hl, q⟩ := h
  cases r with
  | cons a b =>
    cases b
    obtain ⟨t, rfl⟩ := a
    refine call_list_str (I.ok.hd hc) z t (hn := hl) fun h' tk acc c k hg hi => ?_
    have hz : (ones z.cps.toList).length ≤ sizeLine := by
      rw [List.length_map, Array.length_toList]
      exact hl
    exact ⟨.ref _, upd H s.heap.objs.size (.lst (ones z.cps.toList)), I.laid (t' := tk) k (Nat.le_refl _) ⟨hz, acc.toList, c, signs_vals hi, by simpa using hg⟩, rfl, q _ (I.hok.fresh (Nat.le_refl _))⟩
/-- a ** b, the result below 2 ^ 27 bits -/
theorem op_powW : OpR X (binaryOp .Pow) (rI (fun i j => 0 ≤ j ∧ (Builtin.Int.intBits i : Int) * j ≤ 2 ^ 27) fun i j => .int (i ^ j.toNat)) := opI fun _ _ _ _ _ _ _ hc q => pow_int hc.1 hc.2 q
end
end Tx

set_option Elab.async false
set_option linter.all false
set_option maxRecDepth 100000
set_option maxHeartbeats 3200000
/-! what the judges are worth, over plain data -/
namespace Tm
open PySem PySem.Spec PySem.Builtin PySem.Builtin.Str PyProof.Rows L2 Tx

abbrev cds (z : Str) : List Nat := z.cps.toList
theorem cds_ext {y z : Str} (h : cds y = cds z) : y = z := by
  cases y with
  | mk a =>
    cases z with
    | mk b =>
      have e : a = b := Array.toList_inj.mp h
      rw [e]
theorem cds_len (z : Str) : (cds z).length = z.length := by
  show z.cps.toList.length = z.cps.size
  rw [Array.length_toList]
/-- every sign of z is one of sg -/
def only (z sg : Str) : Bool := (cds z).all fun c => decide (c ∈ cds sg)
theorem only_iff {z sg : Str} : only z sg = true ↔ ∀ c ∈ cds z, c ∈ cds sg := by
  unfold only
  rw [List.all_eq_true]
  exact ⟨fun h c hc => of_decide_eq_true (h c hc), fun h c hc => decide_eq_true (h c hc)⟩
theorem getD_mem {z : Str} {k : Nat} (h : k < z.length) : z.cps.getD k 0 ∈ cds z := by
  have h' : k < z.cps.size := h
  have e : z.cps.getD k 0 = z.cps[k] := by simp [Array.getD, h']
  rw [e]
  exact Array.getElem_mem_toList h'
theorem mem_getD {z : Str} {c : Nat} (h : c ∈ cds z) : ∃ k, k < z.length ∧ z.cps.getD k 0 = c := by
  obtain ⟨k, hk, e⟩ := List.getElem_of_mem h
  have hk' : k < z.cps.size := by rw [Array.length_toList] at hk; exact hk
  refine ⟨k, hk', ?_⟩
  rw [← e]
  simp [Array.getD, hk']
theorem goes_iff {sg : Str} {c : Nat} : sg.cps.contains c = true ↔ c ∈ cds sg := by
  rw [Array.contains_iff_mem, Array.mem_toList_iff]
/-- strip with all the signs of sg leaves nothing exactly if there is no other sign -/
theorem strip_only (z sg : Str) : decide (Txt.stripChars z sg = Str.empty) = only z sg := by
  unfold Txt.stripChars
  rw [stripBy_eq]
  obtain ⟨a1, a2, a3⟩ := lo_facts sg.cps.contains z
  obtain ⟨b1, b2, b3, b4⟩ := hi_facts sg.cps.contains z _ a1
  generalize stripLo sg.cps.contains true z = lo at a1 a2 a3 b1 b2 b3 b4 ⊢
  generalize stripHi sg.cps.contains true z lo = hi at b1 b2 b3 b4 ⊢
  have key : strSub z lo hi = Str.empty ↔ lo = hi := by
    constructor
    · intro h
      have e : (z.cps.extract lo hi).size = 0 := by
        have := congrArg (fun y : Str => y.cps.size) h
        exact this
      rw [Array.size_extract] at e
      have hb : hi ≤ z.cps.size := b2
      omega
    · intro h
      subst h
      refine cds_ext ?_
      show (z.cps.extract lo lo).toList = (Str.empty).cps.toList
      rw [Array.extract_empty_of_stop_le_start (Nat.le_refl _)]
      rfl
  by_cases h : only z sg = true
  · rw [h]
    refine decide_eq_true (key.mpr ?_)
    have all := only_iff.mp h
    rcases Nat.lt_or_ge lo z.length with hl | hl
    · exfalso
      rcases a3 with e | e
      · omega
      · have := goes_iff.mpr (all _ (getD_mem hl))
        rw [e] at this
        cases this
    · have c2 : hi ≤ z.length := b2
      omega
  · have h' : only z sg = false := by simpa using h
    rw [h']
    refine decide_eq_false fun q => h (only_iff.mpr fun c hc => ?_)
    have e := key.mp q
    obtain ⟨k, hk, rfl⟩ := mem_getD hc
    rcases Nat.lt_or_ge k lo with u | u
    · exact goes_iff.mp (a2 k u)
    · exact goes_iff.mp (b3 k (by omega) hk)

/-! ### the judges -/
def big : Int := 10 ^ 200
def isInt : PyData → Bool
  | .int n => decide (n.natAbs < 10 ^ 200)
  | _ => false
def has (sg : Str) (most : Nat) : PyData → Bool
  | .str z => decide (z.length ≤ most) && only z sg
  | _ => false
def alpha : Str := "abcdefghijklmnopqrstuvwxyz"
def name : PyData → Bool
  | .str z => decide (z.length ≤ 8) && only z alpha && decide (z ≠ Str.empty)
  | _ => false
def rise (z : Str) : Bool := decide (cds z = ups (cds z))
def letters : PyData → Bool
  | .str z => decide (z.length ≤ 3) && only z alpha && decide (z ≠ Str.empty) && rise z
  | _ => false
def prime : PyData → Bool
  | .int n => decide (n = 2 ∨ n = 3 ∨ n = 5 ∨ n = 7)
  | _ => false
def lows (z : Str) : Bool := (cds z).all fun c => decide (97 ≤ c) && decide (c ≤ 122)
def small (most : Nat) : PyData → Bool
  | .str z => decide (1 ≤ z.length) && decide (z.length ≤ most) && lows z
  | _ => false
theorem alpha_iff (c : Nat) : c ∈ cds alpha ↔ 97 ≤ c ∧ c ≤ 122 := by
  have e : cds alpha = (List.range 26).map (· + 97) := by decide +kernel
  rw [e, List.mem_map]
  constructor
  · rintro ⟨k, hk, rfl⟩
    have := List.mem_range.mp hk
    omega
  · rintro ⟨h1, h2⟩
    exact ⟨c - 97, List.mem_range.mpr (by omega), by omega⟩
theorem only_alpha (z : Str) : only z alpha = lows z := by
  unfold only lows
  congr 1
  funext c
  by_cases h : c ∈ cds alpha
  · have := (alpha_iff c).mp h
    simp [h, this.1, this.2]
  · have h2 : ¬ (97 ≤ c ∧ c ≤ 122) := fun q => h ((alpha_iff c).mpr q)
    rw [decide_eq_false h, ← Bool.decide_and, decide_eq_false h2]
theorem nonempty_iff (z : Str) : z ≠ Str.empty ↔ 1 ≤ z.length := by
  constructor
  · intro h
    rcases Nat.eq_zero_or_pos z.length with e | e
    · exfalso
      apply h
      apply cds_ext
      have : (cds z).length = 0 := by rw [cds_len]; exact e
      rw [List.length_eq_zero_iff.mp this]
      rfl
    · exact e
  · intro h e
    subst e
    exact absurd h (by decide)
theorem name_small (d : PyData) : name d = small 8 d := by
  cases d with
  | str z =>
    show (decide (z.length ≤ 8) && only z alpha && decide (z ≠ Str.empty)) = (decide (1 ≤ z.length) && decide (z.length ≤ 8) && lows z)
    rw [only_alpha, decide_eq_decide.mpr (nonempty_iff z)]
    cases decide (z.length ≤ 8) <;> cases lows z <;> cases decide (1 ≤ z.length) <;> rfl
  | _ => rfl
theorem letters_small (d : PyData) : letters d = (small 3 d && (match d with | .str z => rise z | _ => false)) := by
  cases d with
  | str z =>
    show (decide (z.length ≤ 3) && only z alpha && decide (z ≠ Str.empty) && rise z) = (decide (1 ≤ z.length) && decide (z.length ≤ 3) && lows z && rise z)
    rw [only_alpha, decide_eq_decide.mpr (nonempty_iff z)]
    cases decide (z.length ≤ 3) <;> cases lows z <;> cases decide (1 ≤ z.length) <;> cases rise z <;> rfl
  | _ => rfl

/-! ### how numbers and texts are shown -/
theorem shown_int {n k : Int} (h : (toString n : String) = toString k) : n = k := by
  have e := congrArg String.toInt? h
  simpa using e

/-- a text that is judged: short, plain signs, few unlike ones -/
structure Fine (z : Str) : Prop where
  long : z.length ≤ 4001
  few : (met [] (cds z)).length < 64
  plain : ∀ c ∈ cds z, c < 128
/-- the four texts of the primes -/
abbrev four : List V := [.str "2", .str "3", .str "5", .str "7"]
/-- data that is judged -/
def Ok : PyData → Prop
  | .int n => n.natAbs.log2 < 1920
  | .str z => Fine z
  | d => d.showable = true ∧ d.depth < 60 ∧ d.shown.length ≤ sizeLine ∧ inV (.str d.shown) four = false
end Tm

set_option linter.all false
/-! turns of points, as lists: put together, undone, and how often they lead all points back -/
namespace Pm
variable {n p q : Nat} {t u v : List Nat}
/-- where a turn leads a point -/
def to (t : List Nat) (p : Nat) : Nat := t.getD p 0
def Turn (n : Nat) (t : List Nat) : Prop := t.Perm (List.range n)
theorem to_get (h : p < t.length) : to t p = t[p] := by
  unfold to
  rw [List.getD_eq_getElem?_getD, List.getElem?_eq_getElem h]
  rfl
theorem Turn.len (h : Turn n t) : t.length = n := by
  have := h.length_eq
  rw [List.length_range] at this
  exact this
theorem Turn.mem (h : Turn n t) : p ∈ t ↔ p < n := h.mem_iff.trans List.mem_range
theorem Turn.nodup (h : Turn n t) : t.Nodup := h.nodup_iff.mpr List.nodup_range
theorem Turn.lt (h : Turn n t) (hp : p < n) : to t p < n := by
  have hp' : p < t.length := by rw [h.len]; exact hp
  rw [to_get hp']
  exact h.mem.mp (List.getElem_mem hp')
def joint (t u : List Nat) : List Nat := t.map (to u)
theorem range_map (h : u.length = n) : (List.range n).map (to u) = u := by
  apply List.ext_getElem
  · rw [List.length_map, List.length_range, h]
  · intro i h1 h2
    rw [List.getElem_map, List.getElem_range, to_get h2]
theorem turn_joint (h : Turn n t) (k : Turn n u) : Turn n (joint t u) := by
  have := h.map (to u)
  rw [range_map k.len] at this
  exact this.trans k
theorem joint_len : (joint t u).length = t.length := List.length_map ..
theorem to_joint (hp : p < t.length) : to (joint t u) p = to u (to t p) := by
  rw [to_get (by rw [joint_len]; exact hp), to_get hp]
  exact List.getElem_map ..
theorem joint_assoc (h : Turn n t) (k : Turn n u) : joint (joint t u) v = joint t (joint u v) := by
  unfold joint
  rw [List.map_map]
  refine List.map_congr_left fun x hx => ?_
  exact (to_joint (t := u) (u := v) (by rw [k.len]; exact h.mem.mp hx)).symm
theorem to_still (hp : p < n) : to (List.range n) p = p := by
  rw [to_get (by rw [List.length_range]; exact hp), List.getElem_range]
theorem joint_still (h : Turn n t) : joint t (List.range n) = t := by
  unfold joint
  have : t.map (to (List.range n)) = t.map id := List.map_congr_left fun x hx => to_still (h.mem.mp hx)
  rw [this, List.map_id]
theorem still_joint (h : Turn n t) : joint (List.range n) t = t := range_map h.len
theorem still_turn : Turn n (List.range n) := List.Perm.refl _
/-- two turns are the same if they lead all points so -/
theorem turn_ext (h : Turn n t) (k : Turn n u) (e : ∀ p, p < n → to t p = to u p) : t = u := by
  rw [← range_map h.len, ← range_map k.len]
  exact List.map_congr_left fun x hx => e x (List.mem_range.mp hx)
theorem nodup_inj {l : List Nat} (h : l.Nodup) {i j : Nat} (hi : i < l.length) (hj : j < l.length) (e : l[i] = l[j]) : i = j := by
  rcases Nat.lt_trichotomy i j with c | c | c
  · exact absurd e (List.pairwise_iff_getElem.mp h i j hi hj c)
  · exact c
  · exact absurd e.symm (List.pairwise_iff_getElem.mp h j i hj hi c)
def undone (t : List Nat) : List Nat := (List.range t.length).map fun q => t.idxOf q
theorem to_idx (h : Turn n t) (hq : q < n) : to t (t.idxOf q) = q := by
  have hm := h.mem.mpr hq
  rw [to_get (List.idxOf_lt_length_of_mem hm)]
  exact List.getElem_idxOf _
theorem idx_to (h : Turn n t) (hp : p < n) : t.idxOf (to t p) = p := by
  have hp' : p < t.length := by rw [h.len]; exact hp
  have hm : to t p ∈ t := h.mem.mpr (h.lt hp)
  have hl := List.idxOf_lt_length_of_mem hm
  have e : t[t.idxOf (to t p)] = t[p] := by
    rw [List.getElem_idxOf]
    exact to_get hp'
  exact nodup_inj h.nodup hl hp' e
theorem undone_len : (undone t).length = t.length := by
  unfold undone
  rw [List.length_map, List.length_range]
theorem to_undone (h : Turn n t) (hq : q < n) : to (undone t) q = t.idxOf q := by
  have hq' : q < t.length := by rw [h.len]; exact hq
  rw [to_get (by rw [undone_len]; exact hq')]
  unfold undone
  rw [List.getElem_map, List.getElem_range]
theorem turn_undone (h : Turn n t) : Turn n (undone t) := by
  have h1 : undone t = (List.range n).map fun q => t.idxOf q := by unfold undone; rw [h.len]
  have h2 : t.map (fun q => t.idxOf q) = List.range n := by
    apply List.ext_getElem
    · rw [List.length_map, h.len, List.length_range]
    · intro i h3 h4
      rw [List.length_range] at h4
      rw [List.getElem_map, List.getElem_range]
      have := idx_to h h4
      rw [to_get (by rw [h.len]; exact h4)] at this
      exact this
  have h3 := (h.symm).map fun q => t.idxOf q
  rw [h2] at h3
  rw [h1]
  exact h3
theorem joint_undone (h : Turn n t) : joint t (undone t) = List.range n :=
  turn_ext (turn_joint h (turn_undone h)) still_turn fun p hp => by
    rw [to_joint (by rw [h.len]; exact hp), to_undone h (h.lt hp), idx_to h hp, to_still hp]
theorem undone_joint (h : Turn n t) : joint (undone t) t = List.range n :=
  turn_ext (turn_joint (turn_undone h) h) still_turn fun p hp => by
    rw [to_joint (by rw [(turn_undone h).len]; exact hp), to_undone h hp, to_idx h hp, to_still hp]
theorem undone_undone (h : Turn n t) : undone (undone t) = t := by
  have k := turn_undone h
  have e : joint (joint (undone (undone t)) (undone t)) t = joint (undone (undone t)) (joint (undone t) t) := joint_assoc (turn_undone k) k
  rw [undone_joint k, undone_joint h, still_joint h, joint_still (turn_undone k)] at e
  exact e.symm
theorem undone_of_joint (h : Turn n t) (k : Turn n u) : undone (joint t u) = joint (undone u) (undone t) := by
  have hj := turn_joint h k
  have hu := turn_undone hj
  refine turn_ext hu (turn_joint (turn_undone k) (turn_undone h)) fun p hp => ?_
  rw [to_undone hj hp, to_joint (by rw [(turn_undone k).len]; exact hp), to_undone k hp]
  have hp1 : u.idxOf p < n := by
    have := List.idxOf_lt_length_of_mem (k.mem.mpr hp)
    rw [k.len] at this
    exact this
  rw [to_undone h hp1]
  have hp2 : t.idxOf (u.idxOf p) < n := by
    have := List.idxOf_lt_length_of_mem (h.mem.mpr hp1)
    rw [h.len] at this
    exact this
  have e : to (joint t u) (t.idxOf (u.idxOf p)) = p := by rw [to_joint (by rw [h.len]; exact hp2), to_idx h hp1, to_idx k hp]
  have := idx_to hj hp2
  rw [e] at this
  exact this
theorem to_inj (h : Turn n t) (hp : p < n) (hq : q < n) (e : to t p = to t q) : p = q := by
  rw [← idx_to h hp, e, idx_to h hq]
/-! again and again -/
def it (t : List Nat) : Nat → Nat → Nat
  | 0, p => p
  | k + 1, p => to t (it t k p)
theorem it_lt (h : Turn n t) (hp : p < n) : ∀ k, it t k p < n
  | 0 => hp
  | k + 1 => h.lt (it_lt h hp k)
theorem it_add (t : List Nat) (a : Nat) (p : Nat) : ∀ b, it t (b + a) p = it t b (it t a p)
  | 0 => by rw [Nat.zero_add]; rfl
  | b + 1 => by
    rw [show b + 1 + a = (b + a) + 1 by omega]
    show to t (it t (b + a) p) = to t (it t b (it t a p))
    rw [it_add t a p b]
theorem it_comm (t : List Nat) (a b p : Nat) : it t a (it t b p) = it t b (it t a p) := by rw [← it_add, ← it_add, Nat.add_comm]
theorem it_mul {m : Nat} (e : it t m p = p) : ∀ c, it t (m * c) p = p
  | 0 => rfl
  | c + 1 => by
    rw [Nat.mul_succ, it_add, e]
    exact it_mul e c
theorem it_inj (h : Turn n t) (hp : p < n) (hq : q < n) : ∀ k, it t k p = it t k q → p = q
  | 0, e => e
  | k + 1, e => it_inj h hp hq k (to_inj h (it_lt h hp k) (it_lt h hq k) e)
/-- if no earlier one comes back, then all that come back are multiples -/
theorem it_dvd {m : Nat} (h : Turn n t) (hp : p < n) (hm : 0 < m) (e : it t m p = p) (hl : ∀ k, 0 < k → k < m → it t k p ≠ p) (k : Nat) : it t k p = p ↔ m ∣ k := by
  constructor
  · intro hk
    have e2 : it t (k % m) p = p := by
      have := Nat.div_add_mod k m
      have e3 : it t (k % m + m * (k / m)) p = p := by rw [Nat.add_comm, this]; exact hk
      rw [it_add, it_mul e] at e3
      exact e3
    by_cases h0 : k % m = 0
    · exact Nat.dvd_of_mod_eq_zero h0
    · exact absurd e2 (hl _ (Nat.pos_of_ne_zero h0) (Nat.mod_lt _ hm))
  · rintro ⟨c, rfl⟩
    exact it_mul e c
/-- the order: just the multiples lead all points back -/
def Ord (n : Nat) (t : List Nat) (L : Nat) : Prop := 0 < L ∧ ∀ k, (∀ p, p < n → it t k p = p) ↔ L ∣ k
theorem ord_uniq {L M : Nat} (a : Ord n t L) (b : Ord n t M) : L = M :=
  Nat.dvd_antisymm ((a.2 M).mp ((b.2 M).mpr (Nat.dvd_refl M))) ((b.2 L).mp ((a.2 L).mpr (Nat.dvd_refl L)))
theorem ord_undone {L : Nat} (h : Turn n t) (a : Ord n t L) : Ord n (undone t) L := by
  refine ⟨a.1, fun k => Iff.trans ?_ (a.2 k)⟩
  have b1 : ∀ k p, p < n → it t k (it (undone t) k p) = p := by
    intro k
    induction k with
    | zero => intro p hp; rfl
    | succ k ih =>
      intro p hp
      have hq := it_lt (turn_undone h) hp k
      have e : it t (k + 1) (to (undone t) (it (undone t) k p)) = it t k (to t (to (undone t) (it (undone t) k p))) := it_add t 1 _ k
      show it t (k + 1) (to (undone t) (it (undone t) k p)) = p
      rw [e, to_undone h hq, to_idx h hq]
      exact ih p hp
  constructor
  · intro hk p hp
    have := b1 k p hp
    rw [hk p hp] at this
    exact this
  · intro hk p hp
    have := b1 k p hp
    rw [hk _ (it_lt (turn_undone h) hp k)] at this
    exact this
theorem ord_conj {L : Nat} {c d s : List Nat} (hc : Turn n c) (hd : Turn n d) (hs : Turn n s) (e : ∀ p, p < n → to d (to s p) = to s (to c p)) (a : Ord n c L) : Ord n d L := by
  refine ⟨a.1, fun k => Iff.trans ?_ (a.2 k)⟩
  have b1 : ∀ k p, p < n → it d k (to s p) = to s (it c k p) := by
    intro k
    induction k with
    | zero => intro p hp; rfl
    | succ k ih =>
      intro p hp
      show to d (it d k (to s p)) = to s (to c (it c k p))
      rw [ih p hp, e _ (it_lt hc hp k)]
  constructor
  · intro hk p hp
    have := b1 k p hp
    rw [hk _ (hs.lt hp)] at this
    exact (to_inj hs hp (it_lt hc hp k) this).symm
  · intro hk q hq
    have := b1 k (s.idxOf q) (by
      have := List.idxOf_lt_length_of_mem (hs.mem.mpr hq)
      rw [hs.len] at this
      exact this)
    rw [to_idx hs hq, hk _ (by
      have := List.idxOf_lt_length_of_mem (hs.mem.mpr hq)
      rw [hs.len] at this
      exact this), to_idx hs hq] at this
    exact this
theorem ord_one {L : Nat} (h : Turn n t) (a : Ord n t L) : L = 1 ↔ t = List.range n := by
  have e := a.2 1
  constructor
  · intro hl
    refine turn_ext h still_turn fun p hp => ?_
    rw [to_still hp]
    exact e.mpr (by rw [hl]; exact Nat.dvd_refl 1) p hp
  · intro ht
    exact Nat.dvd_one.mp (e.mp fun p hp => by
      show to t p = p
      rw [ht]
      exact to_still hp)
/-- so many of a turn -/
def pw (t : List Nat) : Nat → List Nat
  | 0 => t
  | k + 1 => joint (pw t k) t
theorem turn_pw (h : Turn n t) : ∀ k, Turn n (pw t k)
  | 0 => h
  | k + 1 => turn_joint (turn_pw h k) h
theorem to_pw (h : Turn n t) (hp : p < n) : ∀ k, to (pw t k) p = it t (k + 1) p
  | 0 => rfl
  | k + 1 => by
    show to (joint (pw t k) t) p = to t (it t (k + 1) p)
    rw [to_joint (by rw [(turn_pw h k).len]; exact hp), to_pw h hp k]
theorem pw_still {L k : Nat} (h : Turn n t) (a : Ord n t L) : pw t k = List.range n ↔ L ∣ k + 1 := by
  rw [← a.2 (k + 1)]
  constructor
  · intro e p hp
    rw [← to_pw h hp, e, to_still hp]
  · intro e
    exact turn_ext (turn_pw h k) still_turn fun p hp => by rw [to_pw h hp, e p hp, to_still hp]
end Pm

set_option linter.all false
/-! the rows of points that a turn leads round -/
namespace Pm
variable {n : Nat} {t : List Nat}
theorem len_le : ∀ {l r : List Nat}, l.Nodup → (∀ x ∈ l, x ∈ r) → l.length ≤ r.length
  | [], _, _, _ => Nat.zero_le _
  | a :: l, r, hn, hs => by
    have ha := hs a List.mem_cons_self
    have hn' := List.nodup_cons.mp hn
    have := len_le (l := l) (r := r.erase a) hn'.2 fun x hx => by
      have hne : x ≠ a := fun e => hn'.1 (e ▸ hx)
      exact (List.mem_erase_of_ne hne).mpr (hs x (List.mem_cons_of_mem _ hx))
    have h1 := List.length_erase_of_mem ha
    have h2 := List.length_pos_of_mem ha
    rw [List.length_cons]
    omega
theorem small_len {l : List Nat} (h : l.Nodup) (hl : ∀ x ∈ l, x < n) : l.length ≤ n := by
  have := len_le (r := List.range n) h fun x hx => List.mem_range.mpr (hl x hx)
  rw [List.length_range] at this
  exact this
/-- what is known ahead of the start i -/
structure Out (n : Nat) (t : List Nat) (i : Nat) (S M : List Nat) : Prop where
  nd : S.Nodup
  lt : ∀ p ∈ S, p < n
  cl : ∀ p, p < n → (p ∈ S ↔ to t p ∈ S)
  all : ∀ p, p < i → p ∈ S
  per : ∀ k, (∀ p ∈ S, it t k p = p) ↔ ∀ m ∈ M, m ∣ k
  sz : ∀ m ∈ M, 1 ≤ m ∧ m ≤ n
  ln : M.length ≤ i
def walk (t : List Nat) (s j : Nat) : List Nat := (List.range j).map fun k => it t k s
theorem walk_succ (t : List Nat) (s j : Nat) : walk t s (j + 1) = walk t s j ++ [it t j s] := by
  unfold walk
  rw [List.range_succ, List.map_append]
  rfl
theorem mem_walk {s j x : Nat} : x ∈ walk t s j ↔ ∃ k, k < j ∧ it t k s = x := by
  unfold walk
  rw [List.mem_map]
  constructor
  · rintro ⟨k, hk, e⟩
    exact ⟨k, List.mem_range.mp hk, e⟩
  · rintro ⟨k, hk, e⟩
    exact ⟨k, List.mem_range.mpr hk, e⟩
theorem walk_len (t : List Nat) (s j : Nat) : (walk t s j).length = j := by
  unfold walk
  rw [List.length_map, List.length_range]
/-- what is known on the way from the start s -/
structure In (S : List Nat) (t : List Nat) (s j : Nat) : Prop where
  nd : (walk t s j).Nodup
  off : ∀ x ∈ walk t s j, x ∉ S
theorem in_zero (S : List Nat) (t : List Nat) (s : Nat) : In S t s 0 := ⟨List.nodup_nil, fun x hx => by cases hx⟩
theorem in_succ {S : List Nat} {s j : Nat} (h : In S t s j) (hp : it t j s ∉ S ++ walk t s j) : In S t s (j + 1) := by
  rw [List.mem_append, not_or] at hp
  constructor
  · rw [walk_succ]
    refine List.nodup_append.mpr ⟨h.nd, by simp, fun x hx y hy e => ?_⟩
    rw [List.mem_singleton.mp hy] at e
    exact hp.2 (e ▸ hx)
  · intro x hx
    rw [walk_succ] at hx
    rcases List.mem_append.mp hx with hx | hx
    · exact h.off x hx
    · rw [List.mem_singleton.mp hx]
      exact hp.1
theorem in_le {S : List Nat} {s j : Nat} (ht : Turn n t) (hs : s < n) (h : In S t s j) : j ≤ n := by
  have := small_len (n := n) h.nd fun x hx => by
    obtain ⟨k, _, e⟩ := mem_walk.mp hx
    rw [← e]
    exact it_lt ht hs k
  rw [walk_len] at this
  exact this
theorem out_zero : Out n t 0 [] [] := ⟨List.nodup_nil, (fun p hp => (by cases hp)), (fun p _ => ⟨(fun h => (by cases h)), (fun h => (by cases h))⟩), (fun p hp => absurd hp (Nat.not_lt_zero p)), (fun k => ⟨(fun _ m hm => (by cases hm)), (fun _ p hp => (by cases hp))⟩), (fun m hm => (by cases hm)), Nat.le_refl 0⟩
theorem out_same {i : Nat} {S M : List Nat} (h : Out n t i S M) (hi : i ∈ S) : Out n t (i + 1) S M :=
  ⟨h.nd, h.lt, h.cl, fun p hp => by
    rcases Nat.lt_succ_iff_lt_or_eq.mp hp with c | c
    · exact h.all p c
    · rw [c]; exact hi, h.per, h.sz, by have := h.ln; omega⟩
theorem it_mem {i : Nat} {S M : List Nat} (ht : Turn n t) (h : Out n t i S M) {s : Nat} (hs : s < n) : ∀ k, it t k s ∈ S → s ∈ S
  | 0, e => e
  | k + 1, e => it_mem ht h hs k ((h.cl _ (it_lt ht hs k)).mpr e)
theorem it_back {s j : Nat} {S M : List Nat} {i : Nat} (ht : Turn n t) (h : Out n t i S M) (hs : s < n) (hI : In S t s (j + 1)) (hp : it t (j + 1) s ∈ S ++ walk t s (j + 1)) : it t (j + 1) s = s := by
  have h0 : s ∉ S := hI.off s (mem_walk.mpr ⟨0, Nat.succ_pos j, rfl⟩)
  rcases List.mem_append.mp hp with hp | hp
  · exact absurd (it_mem ht h hs _ hp) h0
  · obtain ⟨k, hk, e⟩ := mem_walk.mp hp
    cases k with
    | zero => exact e.symm
    | succ k =>
      have e2 : it t k s = it t j s := to_inj ht (it_lt ht hs k) (it_lt ht hs j) e
      have hl : (walk t s (j + 1)).length = j + 1 := walk_len ..
      have e3 : (walk t s (j + 1))[k]'(by omega) = (walk t s (j + 1))[j]'(by omega) := by
        unfold walk
        rw [List.getElem_map, List.getElem_map, List.getElem_range, List.getElem_range]
        exact e2
      have := nodup_inj hI.nd _ _ e3
      omega
theorem out_succ {j i : Nat} {S M : List Nat} (ht : Turn n t) (h : Out n t i S M) (hs : i < n) (hI : In S t i (j + 1)) (hp : it t (j + 1) i ∈ S ++ walk t i (j + 1)) : Out n t (i + 1) (S ++ walk t i (j + 1)) (M ++ [j + 1]) := by
  have hb := it_back ht h hs hI hp
  have hne : ∀ k, 0 < k → k < j + 1 → it t k i ≠ i := by
    intro k h0 hk e
    have hl : (walk t i (j + 1)).length = j + 1 := walk_len ..
    have e3 : (walk t i (j + 1))[k]'(by omega) = (walk t i (j + 1))[0]'(by omega) := by
      unfold walk
      rw [List.getElem_map, List.getElem_map, List.getElem_range, List.getElem_range]
      exact e
    have := nodup_inj hI.nd _ _ e3
    omega
  refine ⟨?_, ?_, ?_, ?_, ?_, ?_, ?_⟩
  · refine List.nodup_append.mpr ⟨h.nd, hI.nd, fun x hx y hy e => ?_⟩
    exact hI.off y hy (e ▸ hx)
  · intro p hp'
    rcases List.mem_append.mp hp' with c | c
    · exact h.lt p c
    · obtain ⟨k, _, e⟩ := mem_walk.mp c
      rw [← e]
      exact it_lt ht hs k
  · intro p hpn
    rw [List.mem_append, List.mem_append]
    constructor
    · rintro (c | c)
      · exact .inl ((h.cl p hpn).mp c)
      · obtain ⟨k, hk, e⟩ := mem_walk.mp c
        refine .inr (mem_walk.mpr ?_)
        by_cases hk2 : k + 1 < j + 1
        · exact ⟨k + 1, hk2, by show to t (it t k i) = to t p; rw [e]⟩
        · have : k = j := by omega
          subst this
          exact ⟨0, by omega, by
            show i = to t p
            rw [← e]
            exact hb.symm⟩
    · rintro (c | c)
      · exact .inl ((h.cl p hpn).mpr c)
      · obtain ⟨k, hk, e⟩ := mem_walk.mp c
        refine .inr (mem_walk.mpr ?_)
        cases k with
        | zero =>
          refine ⟨j, Nat.lt_succ_self j, to_inj ht (it_lt ht hs j) hpn ?_⟩
          exact hb.trans e
        | succ k => exact ⟨k, by omega, to_inj ht (it_lt ht hs k) hpn e⟩
  · intro p hp'
    rcases Nat.lt_succ_iff_lt_or_eq.mp hp' with c | c
    · exact List.mem_append_left _ (h.all p c)
    · rw [c]
      exact List.mem_append_right _ (mem_walk.mpr ⟨0, Nat.succ_pos j, rfl⟩)
  · intro k
    have e1 : (∀ p ∈ walk t i (j + 1), it t k p = p) ↔ (j + 1) ∣ k := by
      rw [← it_dvd ht hs (Nat.succ_pos j) hb hne k]
      constructor
      · intro a
        exact a i (mem_walk.mpr ⟨0, Nat.succ_pos j, rfl⟩)
      · intro a p hp'
        obtain ⟨m, _, e⟩ := mem_walk.mp hp'
        rw [← e, it_comm, a]
    constructor
    · intro a m hm
      rcases List.mem_append.mp hm with c | c
      · exact (h.per k).mp (fun p hp' => a p (List.mem_append_left _ hp')) m c
      · rw [List.mem_singleton.mp c]
        exact e1.mp fun p hp' => a p (List.mem_append_right _ hp')
    · intro a p hp'
      rcases List.mem_append.mp hp' with c | c
      · exact (h.per k).mpr (fun m hm => a m (List.mem_append_left _ hm)) p c
      · exact e1.mpr (a _ (List.mem_append_right _ (List.mem_singleton.mpr rfl))) p c
  · intro m hm
    rcases List.mem_append.mp hm with c | c
    · exact h.sz m c
    · rw [List.mem_singleton.mp c]
      exact ⟨by omega, in_le ht hs hI⟩
  · have := h.ln
    rw [List.length_append, List.length_singleton]
    omega
/-- what the lengths tell -/
structure Lens (n : Nat) (t : List Nat) (M : List Nat) : Prop where
  per : ∀ k, (∀ p, p < n → it t k p = p) ↔ ∀ m ∈ M, m ∣ k
  sz : ∀ m ∈ M, 1 ≤ m ∧ m ≤ n
  ln : M.length ≤ n
theorem out_end {S M : List Nat} (h : Out n t n S M) : Lens n t M :=
  ⟨fun k => Iff.trans ⟨fun a p hp => a p (h.lt p hp), fun a p hp => a p (h.all p hp)⟩ (h.per k), h.sz, h.ln⟩
def lcmOf (M : List Nat) : Nat := M.foldl (fun a m => Nat.lcm a m) 1
theorem lcm_dvd (k : Nat) : ∀ (M : List Nat) (a : Nat), M.foldl (fun a m => Nat.lcm a m) a ∣ k ↔ a ∣ k ∧ ∀ m ∈ M, m ∣ k
  | [], a => by simp
  | m :: M, a => by
    show M.foldl (fun a m => Nat.lcm a m) (Nat.lcm a m) ∣ k ↔ _
    rw [lcm_dvd k M, Nat.lcm_dvd_iff]
    constructor
    · rintro ⟨⟨h1, h2⟩, h3⟩
      refine ⟨h1, fun x hx => ?_⟩
      rcases List.mem_cons.mp hx with rfl | hx
      · exact h2
      · exact h3 x hx
    · rintro ⟨h1, h2⟩
      exact ⟨⟨h1, h2 m List.mem_cons_self⟩, fun x hx => h2 x (List.mem_cons_of_mem _ hx)⟩
theorem lcm_take {M : List Nat} {i m : Nat} (h : M[i]? = some m) : lcmOf (M.take (i + 1)) = Nat.lcm (lcmOf (M.take i)) m := by
  unfold lcmOf
  rw [List.take_add_one, h, List.foldl_append]
  rfl
theorem lcm_pos : ∀ (M : List Nat), (∀ m ∈ M, 1 ≤ m) → ∀ a, 0 < a → 0 < M.foldl (fun a m => Nat.lcm a m) a
  | [], _, a, h => h
  | m :: M, hM, a, h => lcm_pos M (fun x hx => hM x (List.mem_cons_of_mem _ hx)) _ (Nat.lcm_pos h (hM m List.mem_cons_self))
theorem lcm_bound {b : Nat} (hb : 1 ≤ b) : ∀ (M : List Nat), (∀ m ∈ M, m ≤ b) → ∀ a, M.foldl (fun a m => Nat.lcm a m) a ≤ a * b ^ M.length
  | [], _, a => by simp
  | m :: M, hM, a => by
    have h1 := lcm_bound hb M (fun x hx => hM x (List.mem_cons_of_mem _ hx)) (Nat.lcm a m)
    have h2 : Nat.lcm a m ≤ a * m := by
      unfold Nat.lcm
      exact Nat.div_le_self _ _
    have h3 : a * m ≤ a * b := Nat.mul_le_mul_left _ (hM m List.mem_cons_self)
    show M.foldl (fun a m => Nat.lcm a m) (Nat.lcm a m) ≤ a * b ^ (M.length + 1)
    refine Nat.le_trans h1 (Nat.le_trans (Nat.mul_le_mul_right _ (Nat.le_trans h2 h3)) ?_)
    rw [Nat.pow_succ, Nat.mul_assoc, Nat.mul_comm b]
    exact Nat.le_refl _
theorem ord_lcm {M : List Nat} (h : Lens n t M) : Ord n t (lcmOf M) :=
  ⟨lcm_pos M (fun m hm => (h.sz m hm).1) 1 Nat.one_pos, fun k => by
    rw [h.per k]
    unfold lcmOf
    rw [lcm_dvd k M 1]
    exact ⟨fun a => ⟨Nat.one_dvd k, a⟩, fun a => a.2⟩⟩
end Pm

set_option Elab.async false
set_option linter.all false
set_option maxRecDepth 100000
set_option maxHeartbeats 4000000
/-! rules for tuples of numbers: enumerate(t), sorted(t), t.index(n) -/
namespace Ur
open PySem PySem.Spec PyProof.Rows L2
open Sem (wp)
open AutoSeq1 (wpAny_loadPart')
theorem meets_enumerate_newT (l : Addr) (items : Array Value) (n : Nat) (dct : Option Addr) (sl : Array (Option Value)) :
    Meets (Builtin.«enumerate.__new__» ⟨[.type "enumerate", .ref l], []⟩) (fun _ R s => s.heap.get? l = some { cls := .type "tuple", dict := dct, data := .seq items n, slots := sl } ∧
      R (.ok (.ret (.ref (s.heap.push { cls := .type "tuple_iterator", data := .fields #[.ref l, .int 0 0] }).objs.size)))
        { s with heap := (s.heap.push { cls := .type "tuple_iterator", data := .fields #[.ref l, .int 0 0] }).push { cls := .type "enumerate", data := .fields #[.none, .bool false, .ref s.heap.objs.size, rawInt 0, .none, .none] } }) :=
  .of_wp fun prog w A R s h => by
    obtain ⟨hp, g, d, tk, os⟩ := s; obtain ⟨hl, h⟩ := h
    have hsub := sub_enumerate
    have hL : Heap.IsTuple (Shared.heap ⟨hp, g, d, tk, os⟩) l items := ⟨_, hl, rfl, n, rfl⟩
    wp_walk using wpAny_loadPart' hl
    refine wpAny_stack_any fun st => wpAny_pure ?_
    split
    · rename_i c _ _ _ _ _
      cases (c == Value.type "enumerate")
      · wp_walk using wpAny_loadPart' hl, wpAny_pyIter_tuple hL
        exact ⟨_, rfl, h⟩
      · wp_walk using wpAny_loadPart' hl, wpAny_pyIter_tuple hL
        exact ⟨_, rfl, h⟩
    · wp_walk using wpAny_loadPart' hl, wpAny_pyIter_tuple hL
      exact ⟨_, rfl, h⟩
section
variable {prog : Program} {w : World} {A : Around} {E : Value → Shared → Prop} {s : Shared}
theorem call_enumerate_tuple {l : Addr} {items : Array Value} {Q : Value → Shared → Prop} (hL : s.heap.IsTuple l items)
    (h : ∀ h', IsEnum h' (s.heap.objs.size + 1) s.heap.objs.size 0 .none → h'.IsTupleIter s.heap.objs.size l 0 → h'.objs.size = s.heap.objs.size + 2 →
      (∀ b o, s.heap.get? b = some o → h'.get? b = some o) → Q (.ref (s.heap.objs.size + 1)) { s with heap := h' }) :
    wpAny (model prog w) A (call (.type "enumerate") [.ref l]) Q E s := by
  obtain ⟨⟨c, dct, dt, sl⟩, hl, hc, n, hd⟩ := hL
  replace hc : c = .type "tuple" := hc
  replace hd : dt = .seq items n := hd
  subst hc hd
  refine callType_new F.called_enumerate (by decide) (F.typeCall_enumerate_1 _) (F.newCall_enumerate_1 _) (fun obj => F.args_object_init_2 obj _) F.entry_enumerate_new
    (meets_enumerate_newT l items n dct sl) ⟨hl, ?_⟩
  have hz : (s.heap.push { cls := .type "tuple_iterator", data := .fields #[.ref l, .int 0 0] }).objs.size = s.heap.objs.size + 1 := Heap.size_push ..
  show _ ∧ _
  rw [hz]
  have he : IsEnum ((s.heap.push { cls := .type "tuple_iterator", data := .fields #[.ref l, .int 0 0] }).push
      { cls := .type "enumerate", data := .fields #[.none, .bool false, .ref s.heap.objs.size, rawInt 0, .none, .none] }) (s.heap.objs.size + 1) s.heap.objs.size 0 .none := by
    have := Heap.get?_push_size (s.heap.push { cls := .type "tuple_iterator", data := .fields #[.ref l, .int 0 0] })
      (o := { cls := .type "enumerate", data := .fields #[.none, .bool false, .ref s.heap.objs.size, rawInt 0, .none, .none] }) rfl
    rw [hz] at this; exact this
  refine ⟨⟨_, he, rfl⟩, h _ he ⟨_, Heap.get?_push_of_some _ (Heap.get?_push_size _ rfl), rfl, rfl⟩ (by rw [Heap.size_push, hz]) fun b o x => Heap.get?_push_of_some _ (Heap.get?_push_of_some _ x)⟩
end
/-- the tuple at a, each item in a new pair with its place -/
def IteT (K : PySem.W.Frag) (a : Addr) : It :=
  ⟨fun i H => ∃ (xs : List V) (x : V), SqT K H a xs ∧ xs[i]? = some x, fun i H v H' => ∃ T x, v = .ref T ∧ H T = none ∧ H' = upd H T (.tup [.int (i : Nat), x]) ∧ ∀ xs, SqT K H a xs → xs[i]? = some x, fun i H => ∃ xs : List V, SqT K H a xs ∧ xs.length = i⟩
theorem turn_enumT {P : Program} {w : World} {K : PySem.W.Frag} {elts : List Expr} {kk : Nat} {tpos : Pos} (a e it : Addr) :
    Turn P w K (.Tuple elts kk tpos) (IteT K a) [e, it] e (fun i h => (∃ old, IsEnum h e it ((i : Nat) : Int) old) ∧ h.IsTupleIter it a i ∧ e ≠ it) where
  mem := by simp
  obj := fun i h st b hb => by
    obtain ⟨⟨old, he⟩, ⟨o, ho, hc, hd⟩, _⟩ := st
    have e' : b = e ∨ b = it := by simpa using hb
    rcases e' with z | z
    · rw [z]; exact ⟨_, he, fun v q => nomatch q⟩
    · rw [z]; exact ⟨o, ho, fun v q => by rw [hd] at q; cases q⟩
  keep := fun i h h' st k => let ⟨⟨old, he⟩, hi, hne⟩ := st; ⟨⟨old, k e (by simp) _ he⟩, hi.at fun o q => k it (by simp) o q, hne⟩
  item := by
    intro X hP hw hK hc i pins s σ H E I hf st hg
    subst hP hw hK
    obtain ⟨⟨old, he⟩, hit, hne⟩ := st
    obtain ⟨xs, x, hq, hx⟩ := hg
    obtain ⟨its, rv, p, hz⟩ := I.tuple hq
    obtain ⟨u, hu, ru⟩ := rv.get hx
    have hel : e < s.heap.objs.size := Heap.lt_size he
    have hil : it < s.heap.objs.size := by obtain ⟨_, q, _⟩ := hit; exact Heap.lt_size q
    have nai : a ≠ it := by
      rintro rfl
      obtain ⟨o, ho, hco, _⟩ := p
      obtain ⟨o2, ho2, hco2, _⟩ := hit
      rw [ho] at ho2
      cases ho2
      rw [hco] at hco2
      exact absurd hco2 (by decide)
    have nea : e ≠ a := by
      rintro rfl
      obtain ⟨o, ho, hco, _⟩ := p
      have he' : s.heap.get? e = _ := he
      rw [ho] at he'
      cases he'
      injection hco with z
      exact absurd z (by decide)
    have hlt : i < its.toArray.size := by
      have := (List.getElem?_eq_some_iff.mp hu).1
      rw [List.size_toArray]
      exact this
    refine wpAny_pyNext_enum_itemD (Draws.tuple (A := X.A.in1) (I.ok.hd hc) it a nai its.toArray) he ⟨hit, p⟩ hlt hne (by simp; exact ⟨hne, nea⟩) fun u' h' tk hu' ho hst hT hsz hk => ?_
    have hu2 : its.toArray[i]? = some u' := hu'
    have eu : u' = u := by
      have : its.toArray[i]? = some u := by simpa using hu
      rw [this] at hu2
      exact (Option.some.inj hu2).symm
    subst eu
    refine ⟨_, rfl, wpAny_letOwnedTupleGo_enum (s := { s with heap := h', toks := tk + 1 }) ho fun h'' he' sb => ?_⟩
    have hT2 : h''.get? s.heap.objs.size = some { cls := .type "tuple", data := .seq #[.int i tk, u'] } := (sb.2 _ (Nat.ne_of_gt hel)).trans hT
    have new : ObjOk X.prog X.w (upd H s.heap.objs.size (.tup [.int (i : Nat), x])) h'' s.heap.objs.size (.tup [.int (i : Nat), x]) :=
      ⟨by show 2 ≤ sizeLine; decide, [.int i tk, u'], .cons ⟨_, rfl⟩ (.cons ru .nil), ⟨_, hT2, rfl, _, rfl⟩⟩
    have I1 : Inv X pins σ (upd H s.heap.objs.size (.tup [.int (i : Nat), x])) { s with heap := h'', toks := tk + 1 } :=
      I.turnedNew (ch := [e, it]) (fun b ob hb q => (sb.2 b (fun z => hb (by simp [z]))).trans (hk b ob (fun z => hb (by simp [z])) (fun z => hb (by simp [z])) q)) hf (Nat.le_refl _) new
    refine ⟨.ref s.heap.objs.size, _, I1, rfl, ⟨_, x, rfl, I.hok.fresh (Nat.le_refl _), rfl, fun ys hy => by rw [I.tuple_inj hy hq]; exact hx⟩, ⟨⟨u', ?_⟩, hst.1.at fun o q => (sb.2 it (Ne.symm hne)).trans q, hne⟩, fun b hb => ?_⟩
    · have e1 : ((i + 1 : Nat) : Int) = (i : Int) + 1 := by omega
      rw [e1]; exact he'
    · have hb' : b < s.heap.objs.size := by
        have e' : b = e ∨ b = it := by simpa using hb
        rcases e' with z | z
        · rw [z]; exact hel
        · rw [z]; exact hil
      rw [upd_ne (Nat.ne_of_lt hb')]
      exact (hf b hb).1
  done := by
    intro X hP hw hK hc i pins s σ H E I hf st hg
    subst hP hw hK
    obtain ⟨⟨old, he⟩, hit, hne⟩ := st
    obtain ⟨xs, hq, hx⟩ := hg
    obtain ⟨its, rv, p, hz⟩ := I.tuple hq
    obtain ⟨f0, f1, f2, f3, f4, f5⟩ := hf it (by simp)
    have hl := rv.length
    have nai : a ≠ it := by
      rintro rfl
      obtain ⟨o, ho, hco, _⟩ := p
      obtain ⟨o2, ho2, hco2, _⟩ := hit
      rw [ho] at ho2
      cases ho2
      rw [hco] at hco2
      exact absurd hco2 (by decide)
    have en : its.toArray.size = i := by rw [List.size_toArray]; omega
    exact wpAny_pyNext_enum_endD (Draws.tuple (A := X.A.in1) (I.ok.hd hc) it a nai its.toArray) he (by rw [en]; exact ⟨hit, p⟩) fun h' eb => ⟨rfl, I.turned (t' := s.toks) (fun b o hb q => eb b o hb q) f0 f1 f3 f4 f5⟩
  self := fun A i s Q E st h => let ⟨⟨_, he⟩, _⟩ := st; wpAny_pyIter_enum he h
def iEnumT (K : PySem.W.Frag) (ta : TA) : TI := fun σ H R => ta σ H fun vs H1 => ∃ a xs, vs = [.ref a] ∧ SqT K H1 a xs ∧ R (IteT K a) H1
theorem pi_enumT {X : Cx} {e : Expr} {ta : TA} {p pos tpos : Pos} {elts : List Expr} {kk : Nat} (hg : Gl X "enumerate") (hm : X.mg "enumerate" = none) (ha : PA X [e] ta) (hs : starEach [e] X.env = [(false, eval e X.env)] := by rfl) :
    PI X (.Tuple elts kk tpos) (.Call (.Name "enumerate" p) [e] [] pos) (iEnumT X.K ta) := by
  refine ⟨fun pins s σ H R I h => ?_⟩
  refine Call_ (ld_blt I hg hm boot_enumerate (PyProof.Rows.callWith_type1 (thn (ha.run pos pins s σ H _ I h) fun us s1 ⟨vs, H1, I1, r1, q1⟩ => ?_) hs rfl))
  obtain ⟨a, xs, ex, hq, q⟩ := q1
  subst ex
  cases r1 with
  | cons r rr =>
    cases rr
    cases r
    obtain ⟨its, rv, p', hz⟩ := I1.tuple hq
    refine call_enumerate_tuple p' fun h' he hit hsz hk => wpAny_pyIter_enum he ?_
    have I2 : Inv X pins σ H1 { s1 with heap := h' } := I1.kept (t' := s1.toks) hk
    refine ⟨s1.heap.objs.size + 1, [s1.heap.objs.size + 1, s1.heap.objs.size], _, _, H1, rfl, I2, turn_enumT a (s1.heap.objs.size + 1) s1.heap.objs.size, ⟨⟨.none, he⟩, hit, Nat.succ_ne_self _⟩, fun b hb => ?_, q⟩
    have e' : b = s1.heap.objs.size + 1 ∨ b = s1.heap.objs.size := by simpa using hb
    have hle : s1.heap.objs.size ≤ b := by
      rcases e' with z | z
      · rw [z]; exact Nat.le_add_right _ _
      · rw [z]; exact Nat.le_refl _
    exact I1.fpOk hle (I1.hok.fresh hle)
/-! ### sorted(t) -/
section
variable {prog : Program} {w : World} {M : Model} {A : Around} {E : Value → Shared → Prop} {s : Shared}
theorem collect_tuple {l : Addr} {vs : List Value} {Q : List Value → Shared → Prop} (hl : s.heap.IsTuple l vs.toArray)
    (h : Q vs { s with heap := (s.heap.push (seqObj "list" #[] 0)).update s.heap.objs.size (Obj.mapSeq (· ++ vs.toArray)) }) (hsz : vs.length ≤ sizeLine := by size_fits) :
    wpAny (model prog w) A (collect (.ref l)) Q E s := by
  obtain ⟨o, ho, hc, n, hd⟩ := id hl
  unfold collect
  refine wpAny_bind (wpAny_runValue (codeAny_builtin entry_proto_collect' ?_))
  show wpAny _ _ (do again (.builtin "list.__iadd__" ⟨[← newList [], .ref l], []⟩)) _ _ s
  refine wpAny_bind (wpAny_newList (wpAny_pure ⟨Code.quiet_builtin _ (by decide +kernel), codeAny_builtin entry_list_iadd' ?_⟩))
  show wpAny _ _ (Builtin.List.listExtendWith (.ref s.heap.objs.size) (.ref l) (.ref s.heap.objs.size)) _ _ { s with heap := s.heap.push (seqObj "list" #[] 0) }
  unfold Builtin.List.listExtendWith
  have ho' : (s.heap.push (seqObj "list" #[] 0)).get? l = some o := Heap.get?_push_of_some _ ho
  refine wpAny_bind (wpAny_typeOf (T := "tuple") ⟨o, ho', hc⟩ ?_)
  have ht : (Value.type "tuple" == Value.type "tuple") = true := by rfl
  rw [if_pos (by rw [ht]; simp)]
  refine wpAny_bind (listItems_at ho' hd ?_)
  refine wpAny_bind (listItems_at (xs := #[]) (n := 0) (Heap.get?_push_size _ rfl) rfl ?_)
  rw [if_neg (by simp)]
  refine wpAny_bind (listUpdate_at (xs := #[]) (n := 0) (Heap.get?_push_size _ rfl) rfl ?_ (Nat.zero_le _) (by show (#[] ++ vs.toArray).size ≤ sizeLine + 1; simp only [Array.size_append, List.size_toArray, List.length_nil]; omega))
  refine wpAny_pure ?_
  show wpAny (model prog w) A (do
      let o ← load s.heap.objs.size
      match o.data with
      | .seq xs _ => pure xs.toList
      | _ => unsupported "internal:collect") Q E { s with heap := (s.heap.push (seqObj "list" #[] 0)).update s.heap.objs.size (Obj.mapSeq (· ++ vs.toArray)) }
  refine wpAny_bind (wpAny_load (get?_update_seq (Heap.get?_push_size _ rfl) _) ?_)
  show wpAny _ _ (pure ((#[] : Array Value) ++ vs.toArray).toList) Q E _
  rw [show ((#[] : Array Value) ++ vs.toArray).toList = vs by simp]
  exact wpAny_pure h
theorem sorted_intsT {l : Addr} {vs : List Value} {ns : List Int} {Q : Value → Shared → Prop} (hl : s.heap.IsTuple l vs.toArray) (hI : IntsAre vs ns) (h64 : vs.length < 64)
    (h : ∀ (out : Array Value) (ns' : List Int), IntsAre out.toList ns' → ns'.Perm ns → ns'.Pairwise (· ≤ ·) → Q (.ref (s.heap.objs.size + 1)) { s with heap := sortedAll s.heap vs out }) :
    wpAny (model prog w) A (call (.builtin "sorted") [.ref l]) Q E s := by
  refine Calls.call_function_entry kind_sorted plain_sorted entry_sorted (args_sorted1 _) ?_
  unfold Builtin.«sorted»
  refine wpAny_bind (m := checkCount "sorted" 1 1 _) (wpAny_pure ?_)
  refine wpAny_bind (collect_tuple hl ?_ (Nat.le_trans (Nat.le_of_lt h64) (by decide)))
  refine wpAny_bind (wpAny_newList ?_)
  have hsz : ((s.heap.push (seqObj "list" #[] 0)).update s.heap.objs.size (Obj.mapSeq (· ++ vs.toArray))).objs.size = s.heap.objs.size + 1 := by
    rw [Heap.size_update, size_push']
  have hoL : (((s.heap.push (seqObj "list" #[] 0)).update s.heap.objs.size (Obj.mapSeq (· ++ vs.toArray))).push (seqObj "list" vs.toArray 0)).get? (s.heap.objs.size + 1) = some (seqObj "list" vs.toArray 0) := by
    rw [← hsz]; exact Heap.get?_push_size _ rfl
  show wpAny _ _ _ _ _ { s with heap := ((s.heap.push (seqObj "list" #[] 0)).update s.heap.objs.size (Obj.mapSeq (· ++ vs.toArray))).push (seqObj "list" vs.toArray 0) }
  rw [hsz]
  refine wpAny_bind (wpAny_holding (wpAny_call_entry slot_list_sort ⟨_, hoL, rfl⟩ entry_list_sort (list_sort_tree hoL hI h64 fun out ns' a1 a2 a3 => ⟨_, rfl, ?_⟩) (args_list_sort _)))
  exact wpAny_pure ⟨_, rfl, h out ns' a1 a2 a3⟩
end
section
variable {X : Cx}
def rSortedT (K : PySem.W.Frag) : List V → Hp → VK → Prop := fun vs H Q => ∃ (a : Addr) (ns : List Int), vs = [V.ref a] ∧ SqT K H a (ns.map V.int) ∧ ns.length < 64 ∧ ∀ (ns' : List Int) (p : Addr), ns'.Perm ns → ns'.Pairwise (· ≤ ·) → H p = none → Q (.ref p) (upd H p (.lst (ns'.map V.int)))
theorem cr_sortedT : CallR X (.builtin "sorted") (rSortedT X.K) := by
  intro pins s σ H vs us Q I r h
  obtain ⟨a, ns, rfl, hs, h64, q⟩ := h
  obtain ⟨its, rv, hl, _⟩ := I.tuple hs
  rw [Vals.ref1 r]
  have hi := rv.ints
  refine sorted_intsT hl hi (by rw [hi.length]; exact h64) fun out ns' h1 h2 h3 => ?_
  obtain ⟨ep, he'⟩ := PyProof.Rows.sortedAll_at s.heap its out
  have hlen : (ns'.map V.int).length ≤ sizeLine := by rw [List.length_map, h2.length_eq]; exact small64 h64
  exact ⟨.ref _, upd H (s.heap.objs.size + 1) (.lst (ns'.map V.int)), I.laid (t' := s.toks) (fun _ _ => PyProof.Rows.sortedAll_old) (Nat.le_succ _) ⟨hlen, out.toList, ep, vals_of_ints h1, he'⟩, rfl, q ns' _ h2 h3 (I.hok.fresh (Nat.le_succ _))⟩
/-- t.index(n), the first place -/
theorem mt_tup_indexI : MtR X "tuple.index" (fun x xs H Q => ∃ p, ∃ ys : List Int, ∃ z j, x = .ref p ∧ xs = [.int z] ∧ SqT X.K H p (ys.map V.int) ∧ ys[j]? = some z ∧ (∀ m, m < j → ys[m]? ≠ some z) ∧ Q (.int (j : Nat)) H) := by
  intro pins s σ H x xs v us Q I rx rs h
  obtain ⟨p, ys, z, j, rfl, rfl, hq, hy, hno, q⟩ := h
  cases rx
  obtain ⟨u, rfl, t, rfl⟩ := vals1 rs
  obtain ⟨its, r, pl, hz⟩ := I.tuple hq
  obtain ⟨⟨cls, dd, dt, sl⟩, ho, hc, n, hd⟩ := pl
  simp only at hc hd
  subst hc
  subst hd
  have hl : its.toArray.size = ys.length := by rw [List.size_toArray, ← r.length, List.length_map]
  have hj : j < its.toArray.size := by rw [hl]; exact (List.getElem?_eq_some_iff.mp hy).1
  have at' : ∀ (m : Nat) (hm : m < its.toArray.size), ∃ y t', ys[m]? = some y ∧ its.toArray[m] = Value.int y t' := fun m hm => by
    have hm' : m < ys.length := by rw [← hl]; exact hm
    obtain ⟨w, hw, t', hw'⟩ := r.get (i := m) (x := .int ys[m]) (by simp [hm'])
    refine ⟨ys[m], t', List.getElem?_eq_getElem hm', ?_⟩
    have e := (List.getElem?_eq_some_iff.mp hw).2
    rw [← hw', ← e]
    simp
  refine call_meets PySem.F.slot_tuple_index ⟨_, ho, rfl⟩ PySem.F.entry_tuple_index (PySem.F.args_tuple_index_2 _ _) (TI.tuple_indexAt p its.toArray n dd sl (.int z t) (eqU (.int z)) j hj ?_ ?_)
    ⟨ho, fun w hw => mem_eqAt (x := .int z) ⟨t, rfl⟩ rfl r (by rw [List.all_map]; exact List.all_eq_true.mpr fun _ _ => rfl) w (by simpa using hw), ⟨.int (j : Nat), H, I.tok _, ⟨_, rfl⟩, q⟩⟩
  · obtain ⟨y, t', h1, h2⟩ := at' j hj
    rw [hy] at h1
    cases h1
    rw [h2]
    show (z == z) = true
    exact beq_self_eq_true z
  · intro m hm hmj
    obtain ⟨y, t', h1, h2⟩ := at' m hm
    rw [h2]
    show (y == z) = false
    exact beq_eq_false_iff_ne.mpr fun e => hno m hmj (e ▸ h1)
end
end Ur

set_option Elab.async false
set_option linter.all false
namespace Pm
variable {n : Nat} {S S' : List (List Nat)} {a b t u x : List Nat}
/-! ### what turns make -/
inductive Gen (n : Nat) (S : List (List Nat)) : List Nat → Prop
  | one : Gen n S (List.range n)
  | step {t s : List Nat} : Gen n S t → s ∈ S → Gen n S (joint t s)
theorem Gen.turn (hS : ∀ s ∈ S, Turn n s) (h : Gen n S t) : Turn n t := by
  induction h with
  | one => exact still_turn
  | step _ hs ih => exact turn_joint ih (hS _ hs)
theorem Gen.mul (hS : ∀ s ∈ S, Turn n s) (ha : Gen n S a) (hb : Gen n S b) : Gen n S (joint a b) := by
  induction hb with
  | one =>
    rw [joint_still (ha.turn hS)]
    exact ha
  | @step t s h1 hs ih =>
    rw [← joint_assoc (ha.turn hS) (h1.turn hS)]
    exact .step ih hs
theorem Gen.of (hS : ∀ s ∈ S, Turn n s) (h : t ∈ S) : Gen n S t := by
  have := Gen.step (Gen.one (n := n) (S := S)) h
  rw [still_joint (hS t h)] at this
  exact this
theorem Gen.trans (hS : ∀ s ∈ S, Turn n s) (h : ∀ s ∈ S', Gen n S s) (g : Gen n S' t) : Gen n S t := by
  induction g with
  | one => exact .one
  | step _ hs ih => exact ih.mul hS (h _ hs)
theorem Gen.mono (h : ∀ s ∈ S', s ∈ S) (g : Gen n S' t) : Gen n S t := by
  induction g with
  | one => exact .one
  | step _ hs ih => exact .step ih (h _ hs)
theorem Gen.pw (hS : ∀ s ∈ S, Turn n s) (h : Gen n S t) : ∀ k, Gen n S (Pm.pw t k)
  | 0 => h
  | k + 1 => (Gen.pw hS h k).mul hS h
theorem nodup_len {α : Type} [DecidableEq α] : ∀ {l U : List α}, l.Nodup → (∀ x ∈ l, x ∈ U) → l.length ≤ U.length
  | [], _, _, _ => Nat.zero_le _
  | a :: l, U, h, s => by
    obtain ⟨h1, h2⟩ := List.nodup_cons.mp h
    have ha := s a List.mem_cons_self
    have := nodup_len (U := U.erase a) h2 fun x hx => (List.mem_erase_of_ne fun e => h1 (by rw [← e]; exact hx)).mpr (s x (List.mem_cons_of_mem _ hx))
    rw [List.length_erase_of_mem ha] at this
    have hp : 0 < U.length := List.length_pos_of_mem ha
    rw [List.length_cons]
    omega
/-- bounded: at most these -/
def Few (n : Nat) (S : List (List Nat)) (U : List (List Nat)) : Prop := (∀ s ∈ S, Turn n s) ∧ ∀ x, Gen n S x → x ∈ U
theorem Few.trans {U : List (List Nat)} (f : Few n S U) (h : ∀ s ∈ S', Gen n S s) : Few n S' U := ⟨fun s hs => (h s hs).turn f.1, fun x g => f.2 x (g.trans f.1 h)⟩
theorem undone_pw {U : List (List Nat)} (h : Turn n t) (hU : ∀ k, pw t k ∈ U) : ∃ k, undone t = pw t k := by
  have hc : ∃ i j, i < j ∧ pw t i = pw t j := by
    refine Classical.byContradiction fun hn => ?_
    have hd : ((List.range (U.length + 1)).map (pw t)).Nodup := by
      unfold List.Nodup
      rw [List.pairwise_map]
      exact List.pairwise_lt_range.imp fun {a b} hab e => hn ⟨a, b, hab, e⟩
    have := nodup_len hd fun x hx => by
      obtain ⟨k, _, rfl⟩ := List.mem_map.mp hx
      exact hU k
    rw [List.length_map, List.length_range] at this
    omega
  obtain ⟨i, j, hij, e⟩ := hc
  have hk : ∀ p, p < n → it t (j - i) p = p := fun p hp => by
    have e1 : it t (i + 1) p = it t (i + 1) (it t (j - i) p) := by
      rw [← it_add, ← to_pw h hp, e, to_pw h hp, show i + 1 + (j - i) = j + 1 by omega]
    exact (it_inj h hp (it_lt h hp _) _ e1).symm
  refine ⟨(j - i) * 2 - 2, ?_⟩
  have ht := turn_pw h ((j - i) * 2 - 2)
  have e3 : joint t (pw t ((j - i) * 2 - 2)) = List.range n := turn_ext (turn_joint h ht) still_turn fun p hp => by
    rw [to_joint (by rw [h.len]; exact hp), to_pw h (h.lt hp), to_still hp]
    have : it t ((j - i) * 2 - 2 + 1 + 1) p = it t ((j - i) * 2 - 2 + 1) (it t 1 p) := it_add t 1 p _
    show it t ((j - i) * 2 - 2 + 1) (it t 1 p) = p
    rw [← this, show (j - i) * 2 - 2 + 1 + 1 = (j - i) * 2 by omega]
    exact it_mul (hk p hp) 2
  calc undone t = joint (undone t) (List.range n) := (joint_still (turn_undone h)).symm
    _ = joint (undone t) (joint t (pw t ((j - i) * 2 - 2))) := by rw [e3]
    _ = joint (joint (undone t) t) (pw t ((j - i) * 2 - 2)) := (joint_assoc (turn_undone h) h).symm
    _ = pw t ((j - i) * 2 - 2) := by rw [undone_joint h, still_joint ht]
theorem Gen.undone {U : List (List Nat)} (f : Few n S U) (h : Gen n S t) : Gen n S (undone t) := by
  obtain ⟨k, e⟩ := undone_pw (U := U) (h.turn f.1) fun k => f.2 _ (h.pw f.1 k)
  rw [e]
  exact h.pw f.1 k
/-- the turns undone make the same -/
theorem gen_undone {U : List (List Nat)} (f : Few n S U) : Gen n (S.map Pm.undone) x ↔ Gen n S x := by
  have h1 : ∀ s ∈ S.map Pm.undone, Gen n S s := fun s hs => by
    obtain ⟨t, ht, rfl⟩ := List.mem_map.mp hs
    exact (Gen.of f.1 ht).undone f
  have f2 := f.trans h1
  constructor
  · exact Gen.trans f.1 h1
  · refine Gen.trans f2.1 fun s hs => ?_
    have := (Gen.of f2.1 (List.mem_map_of_mem hs)).undone f2
    rw [undone_undone (f.1 s hs)] at this
    exact this
/-! ### the order of lists -/
def leI (a b : List Int) : Bool := decide (a ≤ b)
theorem leI_total (a b : List Int) : (leI a b || leI b a) = true := by
  unfold leI
  rcases List.le_total a b with h | h
  · rw [decide_eq_true h]; rfl
  · rw [decide_eq_true h, Bool.or_true]
theorem leI_trans (a b c : List Int) (h : leI a b = true) (k : leI b c = true) : leI a c = true := decide_eq_true (List.le_trans (of_decide_eq_true h) (of_decide_eq_true k))
theorem leI_anti (a b : List Int) (h : leI a b = true) (k : leI b a = true) : a = b := List.le_antisymm (of_decide_eq_true h) (of_decide_eq_true k)
def toI (t : List Nat) : List Int := t.map fun (p : Nat) => (p : Int)
theorem toI_inj : ∀ {t u : List Nat}, toI t = toI u → t = u
  | [], [], _ => rfl
  | [], _ :: _, h => nomatch h
  | _ :: _, [], h => nomatch h
  | a :: t, b :: u, h => by
    have h' : (a : Int) :: toI t = (b : Int) :: toI u := h
    injection h' with h1 h2
    rw [toI_inj h2, Int.ofNat_inj.mp h1]
def leN (a b : List Nat) : Bool := leI (toI a) (toI b)
theorem leN_total (a b : List Nat) : (leN a b || leN b a) = true := leI_total _ _
theorem leN_trans (a b c : List Nat) (h : leN a b = true) (k : leN b c = true) : leN a c = true := leI_trans _ _ _ h k
theorem leN_anti (a b : List Nat) (h : leN a b = true) (k : leN b a = true) : a = b := toI_inj (leI_anti _ _ h k)
/-- l is the ascending row of all that S makes -/
structure IsSpan (n : Nat) (S l : List (List Nat)) : Prop where
  up : l.Pairwise fun a b => leN a b = true
  nd : l.Nodup
  mem : ∀ x, x ∈ l ↔ Gen n S x
theorem perm_of {l m : List (List Nat)} (h1 : l.Nodup) (h2 : m.Nodup) (e : ∀ x, x ∈ l ↔ x ∈ m) : l.Perm m := by
  rw [List.perm_iff_count]
  intro a
  rw [h1.count, h2.count]
  by_cases ha : a ∈ l
  · rw [if_pos ha, if_pos ((e a).mp ha)]
  · rw [if_neg ha, if_neg fun z => ha ((e a).mpr z)]
theorem IsSpan.uniq {l m : List (List Nat)} (h : IsSpan n S l) (k : IsSpan n S' m) (e : ∀ x, Gen n S x ↔ Gen n S' x) : l = m :=
  (perm_of h.nd k.nd fun x => (h.mem x).trans ((e x).trans (k.mem x).symm)).eq_of_pairwise (fun a b _ _ => leN_anti a b) h.up k.up
theorem IsSpan.of_sort {l : List (List Nat)} (hn : l.Nodup) (hm : ∀ x, x ∈ l ↔ Gen n S x) : IsSpan n S (l.mergeSort leN) where
  up := List.pairwise_mergeSort leN_trans leN_total l
  nd := (List.mergeSort_perm l leN).nodup_iff.mpr hn
  mem := fun x => (List.mergeSort_perm l leN).mem_iff.trans (hm x)
/-! ### the number of a part divides that of the whole -/
theorem len_split {α : Type} (p : α → Bool) : ∀ l : List α, l.length = (l.filter p).length + (l.filter fun x => !p x).length
  | [] => rfl
  | a :: l => by
    have := len_split p l
    by_cases h : p a = true
    · rw [List.filter_cons_of_pos h, List.filter_cons_of_neg (by simp [h]), List.length_cons, List.length_cons]
      omega
    · rw [List.filter_cons_of_neg h, List.filter_cons_of_pos (by simp [h]), List.length_cons, List.length_cons]
      omega
theorem joint_inj (hx : Turn n x) (ha : Turn n a) (hb : Turn n b) (e : joint x a = joint x b) : a = b := by
  have h1 : joint (undone x) (joint x a) = a := by rw [← joint_assoc (turn_undone hx) hx, undone_joint hx, still_joint ha]
  have h2 : joint (undone x) (joint x b) = b := by rw [← joint_assoc (turn_undone hx) hx, undone_joint hx, still_joint hb]
  rw [← h1, e, h2]
theorem parts {H : List (List Nat)} (hn : H.Nodup) (hT : ∀ h ∈ H, Turn n h) (h1 : List.range n ∈ H) (hm : ∀ a ∈ H, ∀ b ∈ H, joint a b ∈ H) (hu : ∀ a ∈ H, undone a ∈ H) :
    ∀ (m : Nat) (L : List (List Nat)), L.length ≤ m → L.Nodup → (∀ x ∈ L, Turn n x) → (∀ x ∈ L, ∀ h ∈ H, joint x h ∈ L) → H.length ∣ L.length
  | _, [], _, _, _, _ => Nat.dvd_zero _
  | 0, _ :: _, hl, _, _, _ => absurd hl (Nat.not_succ_le_zero _)
  | m + 1, x :: L, hl, hL, hLT, hc => by
    have hx := hLT x List.mem_cons_self
    let C := H.map (joint x)
    have hC : C.Nodup := by
      show (H.map (joint x)).Nodup
      unfold List.Nodup
      rw [List.pairwise_map]
      exact (List.Pairwise.and_mem.mp hn).imp fun {a b} ⟨ha, hb, hab⟩ e => hab (joint_inj hx (hT a ha) (hT b hb) e)
    have hCL : ∀ y ∈ C, y ∈ x :: L := fun y hy => by
      obtain ⟨h, hh, rfl⟩ := List.mem_map.mp hy
      exact hc x List.mem_cons_self h hh
    have hxC : x ∈ C := List.mem_map.mpr ⟨_, h1, joint_still hx⟩
    let p : List Nat → Bool := fun y => decide (y ∈ C)
    have e1 : ((x :: L).filter p).length = H.length := by
      have : ((x :: L).filter p).Perm C := perm_of (hL.sublist List.filter_sublist) hC fun y => by
        rw [List.mem_filter]
        constructor
        · rintro ⟨_, h⟩
          exact of_decide_eq_true h
        · intro h
          exact ⟨hCL y h, decide_eq_true h⟩
      rw [this.length_eq]
      exact List.length_map ..
    have e2 := len_split p (x :: L)
    have hlt : ((x :: L).filter fun y => !p y).length ≤ m := by
      have : 0 < H.length := List.length_pos_of_mem h1
      omega
    have ih := parts hn hT h1 hm hu m ((x :: L).filter fun y => !p y) hlt (hL.sublist List.filter_sublist) (fun y hy => hLT y (List.mem_filter.mp hy).1) fun y hy h hh => by
      obtain ⟨y1, y2⟩ := List.mem_filter.mp hy
      have yC : ¬ y ∈ C := fun z => by
        have : p y = true := decide_eq_true z
        rw [this] at y2
        exact nomatch y2
      refine List.mem_filter.mpr ⟨hc y y1 h hh, ?_⟩
      have : ¬ joint y h ∈ C := fun z => by
        obtain ⟨g, hg, eg⟩ := List.mem_map.mp z
        refine yC (List.mem_map.mpr ⟨joint g (undone h), hm g hg _ (hu h hh), ?_⟩)
        have ty := hLT y y1
        rw [← joint_assoc hx (hT g hg), eg, joint_assoc ty (hT h hh), joint_undone (hT h hh), joint_still ty]
      show (!decide _) = true
      rw [decide_eq_false this]
      rfl
    rw [e2, e1]
    exact Nat.dvd_add (Nat.dvd_refl _) ih
theorem span_dvd {l m : List (List Nat)} {U : List (List Nat)} (f : Few n S U) (hl : IsSpan n S l) (hm : IsSpan n S' m) (h : ∀ s ∈ S', Gen n S s) : m.length ∣ l.length := by
  have f2 := f.trans h
  refine parts hm.nd (fun x hx => ((hm.mem x).mp hx).turn f2.1) ((hm.mem _).mpr .one) (fun a ha b hb => (hm.mem _).mpr (((hm.mem a).mp ha).mul f2.1 ((hm.mem b).mp hb)))
    (fun a ha => (hm.mem _).mpr (((hm.mem a).mp ha).undone f2)) l.length l (Nat.le_refl _) hl.nd (fun x hx => ((hl.mem x).mp hx).turn f.1) fun x hx y hy => (hl.mem _).mpr (((hl.mem x).mp hx).mul f.1 (((hm.mem y).mp hy).trans f.1 h))
/-! ### one turn alone -/
def p0 (n : Nat) (t : List Nat) : Nat → List Nat
  | 0 => List.range n
  | k + 1 => pw t k
theorem to_p0 (h : Turn n t) {p : Nat} (hp : p < n) : ∀ k, to (p0 n t k) p = it t k p
  | 0 => to_still hp
  | k + 1 => to_pw h hp k
theorem turn_p0 (h : Turn n t) : ∀ k, Turn n (p0 n t k)
  | 0 => still_turn
  | k + 1 => turn_pw h k
theorem p0_step (h : Turn n t) : ∀ k, joint (p0 n t k) t = p0 n t (k + 1)
  | 0 => still_joint h
  | k + 1 => rfl
theorem span_one {L : Nat} {l : List (List Nat)} (h : Turn n t) (hO : Ord n t L) (hl : IsSpan n [t] l) : l.length = L := by
  have hL := hO.1
  have hp : ((List.range L).map (p0 n t)).Nodup := by
    unfold List.Nodup
    rw [List.pairwise_map]
    refine (List.Pairwise.and_mem.mp List.pairwise_lt_range).imp fun {i j} ⟨hi, hj, hij⟩ e => ?_
    have hj' := List.mem_range.mp hj
    have hk : ∀ p, p < n → it t (j - i) p = p := fun p hp => by
      have e1 : it t i p = it t i (it t (j - i) p) := by
        rw [← it_add, ← to_p0 h hp, e, to_p0 h hp, show i + (j - i) = j by omega]
      exact (it_inj h hp (it_lt h hp _) _ e1).symm
    have := Nat.le_of_dvd (by omega) ((hO.2 _).mp hk)
    omega
  have hm : ∀ x, x ∈ l ↔ x ∈ (List.range L).map (p0 n t) := fun x => by
    rw [hl.mem]
    constructor
    · intro g
      induction g with
      | one => exact List.mem_map.mpr ⟨0, List.mem_range.mpr hL, rfl⟩
      | @step y s _ hs ih =>
        rw [List.mem_singleton.mp hs]
        obtain ⟨k, hk, rfl⟩ := List.mem_map.mp ih
        have hk' := List.mem_range.mp hk
        rw [p0_step h]
        by_cases e : k + 1 = L
        · refine List.mem_map.mpr ⟨0, List.mem_range.mpr hL, ?_⟩
          have : pw t k = List.range n := (pw_still h hO).mpr (by rw [e]; exact Nat.dvd_refl L)
          exact this.symm
        · exact List.mem_map.mpr ⟨k + 1, List.mem_range.mpr (by omega), rfl⟩
    · intro hx
      obtain ⟨k, _, rfl⟩ := List.mem_map.mp hx
      cases k with
      | zero => exact .one
      | succ k =>
        have hS : ∀ s ∈ [t], Turn n s := fun s hs => by rw [List.mem_singleton.mp hs]; exact h
        exact (Gen.of hS List.mem_cons_self).pw hS k
  rw [(perm_of hl.nd hp hm).length_eq, List.length_map, List.length_range]
/-! ### what is put to a span -/
def inse (f : List (List Nat)) (t : List Nat) : List (List Nat) := if t ∈ f then f else f ++ [t]
theorem inse_nd {f : List (List Nat)} (h : f.Nodup) : (inse f t).Nodup := by
  unfold inse
  split
  · exact h
  · rename_i hn
    unfold List.Nodup
    rw [List.pairwise_append]
    exact ⟨h, List.pairwise_singleton _ _, fun a ha b hb e => hn (by rw [← List.mem_singleton.mp hb, ← e]; exact ha)⟩
theorem inse_mem {f : List (List Nat)} : x ∈ inse f t ↔ x ∈ f ∨ x = t := by
  unfold inse
  split
  · rename_i h
    constructor
    · exact .inl
    · rintro (h' | rfl)
      · exact h'
      · exact h
  · rw [List.mem_append, List.mem_singleton]
/-- what holds while the leaders are gone through: B is what was there, L the leaders, f what is found -/
structure Led (n : Nat) (B K L f : List (List Nat)) : Prop where
  nd : f.Nodup
  ln : L.Nodup
  st : List.range n ∈ L
  mem : ∀ x, x ∈ f ↔ ∃ b ∈ B, ∃ l ∈ L, x = joint b l
  gen : ∀ l ∈ L, Gen n K l
theorem Led.first {B K : List (List Nat)} (hn : B.Nodup) (hT : ∀ b ∈ B, Turn n b) : Led n B K [List.range n] B where
  nd := hn
  ln := List.pairwise_singleton _ _
  st := List.mem_cons_self
  mem := fun x => by
    constructor
    · intro h
      exact ⟨x, h, _, List.mem_cons_self, (joint_still (hT x h)).symm⟩
    · rintro ⟨b, hb, l, hl, rfl⟩
      rw [List.mem_singleton.mp hl, joint_still (hT b hb)]
      exact hb
  gen := fun l hl => by rw [List.mem_singleton.mp hl]; exact .one
/-- a leader is found -/
theorem Led.sub {B K L f : List (List Nat)} (h : Led n B K L f) (hK : ∀ s ∈ K, Turn n s) (hB : List.range n ∈ B) {l : List Nat} (hl : l ∈ L) : l ∈ f :=
  (h.mem l).mpr ⟨_, hB, l, hl, (still_joint ((h.gen l hl).turn hK)).symm⟩
theorem Led.all {B K L f : List (List Nat)} (h : Led n B K L f) (hB : ∀ b ∈ B, Gen n K b) (hK : ∀ s ∈ K, Turn n s) : ∀ x ∈ f, Gen n K x := fun x hx => by
  obtain ⟨b, hb, l, hl, rfl⟩ := (h.mem x).mp hx
  exact (hB b hb).mul hK (h.gen l hl)
theorem Led.more {B K L f f2 : List (List Nat)} {l : List Nat} (h : Led n B K L f) (hl : Gen n K l) (hn : ¬ l ∈ L) (f2n : f2.Nodup) (e : ∀ x, x ∈ f2 ↔ x ∈ f ∨ ∃ b ∈ B, x = joint b l) : Led n B K (L ++ [l]) f2 where
  nd := f2n
  ln := by
    unfold List.Nodup
    rw [List.pairwise_append]
    exact ⟨h.ln, List.pairwise_singleton _ _, fun a ha b hb q => hn (by rw [← List.mem_singleton.mp hb, ← q]; exact ha)⟩
  st := List.mem_append_left _ h.st
  mem := fun x => by
    rw [e, h.mem]
    constructor
    · rintro (⟨b, hb, y, hy, rfl⟩ | ⟨b, hb, rfl⟩)
      · exact ⟨b, hb, y, List.mem_append_left _ hy, rfl⟩
      · exact ⟨b, hb, l, by simp, rfl⟩
    · rintro ⟨b, hb, y, hy, rfl⟩
      rcases List.mem_append.mp hy with hy | hy
      · exact .inl ⟨b, hb, y, hy, rfl⟩
      · rw [List.mem_singleton.mp hy]
        exact .inr ⟨b, hb, rfl⟩
  gen := fun y hy => by
    rcases List.mem_append.mp hy with hy | hy
    · exact h.gen y hy
    · rw [List.mem_singleton.mp hy]
      exact hl
/-- at the end all is there -/
theorem Led.done {B K0 K L f : List (List Nat)} (h : Led n B K L f) (hK : ∀ s ∈ K, Turn n s) (h0 : ∀ s ∈ K0, s ∈ K) (hB : ∀ x, x ∈ B ↔ Gen n K0 x) (hc : ∀ l ∈ L, ∀ s ∈ K, joint l s ∈ f) : ∀ x, x ∈ f ↔ Gen n K x := fun x => by
  have hK0 : ∀ s ∈ K0, Turn n s := fun s hs => hK s (h0 s hs)
  constructor
  · exact h.all (fun b hb => ((hB b).mp hb).mono h0) hK x
  · intro g
    induction g with
    | one => exact (h.mem _).mpr ⟨_, (hB _).mpr .one, _, h.st, (still_joint still_turn).symm⟩
    | @step y s _ hs ih =>
      obtain ⟨b, hb, l, hl, rfl⟩ := (h.mem y).mp ih
      have tl := (h.gen l hl).turn hK
      obtain ⟨b2, hb2, l2, hl2, e⟩ := (h.mem _).mp (hc l hl s hs)
      have tb := ((hB b).mp hb).turn hK0
      have tb2 := ((hB b2).mp hb2).turn hK0
      rw [joint_assoc tb tl, e, ← joint_assoc tb tb2]
      exact (h.mem _).mpr ⟨_, (hB _).mpr (((hB b).mp hb).mul hK0 ((hB b2).mp hb2)), l2, hl2, rfl⟩
/-! ### spans that are told by hand -/
def grow (S : List (List Nat)) (R : List (List Nat)) : List (List Nat) := R ++ R.flatMap fun x => S.map fun s => joint x s
def grown (n : Nat) (S : List (List Nat)) : Nat → List (List Nat)
  | 0 => [List.range n]
  | k + 1 => (grow S (grown n S k)).eraseDups
theorem mem_dups {l : List (List Nat)} : x ∈ l.eraseDups → x ∈ l := fun h => by
  simpa using h
theorem grown_gen (n : Nat) (S : List (List Nat)) : ∀ k, ∀ x ∈ grown n S k, Gen n S x
  | 0, x, h => by rw [List.mem_singleton.mp h]; exact .one
  | k + 1, x, h => by
    have ih := grown_gen n S k
    rcases List.mem_append.mp (mem_dups h) with h | h
    · exact ih x h
    · obtain ⟨y, hy, h⟩ := List.mem_flatMap.mp h
      obtain ⟨s, hs, rfl⟩ := List.mem_map.mp h
      exact .step (ih y hy) hs
def told (n : Nat) (S l : List (List Nat)) (k : Nat) : Bool :=
  decide (l.Pairwise fun a b => leN a b = true ∧ a ≠ b) && decide (List.range n ∈ l) && (l.all fun x => S.all fun s => decide (joint x s ∈ l)) && l.all fun x => decide (x ∈ grown n S k)
theorem told_span {l : List (List Nat)} {k : Nat} (h : told n S l k = true) : IsSpan n S l := by
  unfold told at h
  rw [Bool.and_eq_true, Bool.and_eq_true, Bool.and_eq_true] at h
  obtain ⟨⟨⟨h1, h2⟩, h3⟩, h4⟩ := h
  have h1 := of_decide_eq_true h1
  refine ⟨h1.imp fun h => h.1, h1.imp fun h => h.2, fun x => ⟨fun hx => ?_, fun g => ?_⟩⟩
  · exact grown_gen n S k x (of_decide_eq_true (List.all_eq_true.mp h4 x hx))
  · induction g with
    | one => exact of_decide_eq_true h2
    | step _ hs ih => exact of_decide_eq_true (List.all_eq_true.mp (List.all_eq_true.mp h3 _ ih) _ hs)
/-- bounded by a closed list -/
theorem few_of {U : List (List Nat)} (hS : ∀ s ∈ S, Turn n s) (h1 : List.range n ∈ U) (hc : ∀ x ∈ U, ∀ s ∈ S, joint x s ∈ U) : Few n S U := ⟨hS, fun x g => by
  induction g with
  | one => exact h1
  | step _ hs ih => exact hc _ ih _ hs⟩
end Pm

set_option Elab.async false
set_option linter.all false
set_option maxRecDepth 100000
set_option maxHeartbeats 4000000
/-! rules for dicts whose keys are tuples: {t: v}, sorted(d); rows of tuples: t in rows -/
namespace Sr
open PySem PySem.Spec PyProof.Rows L2
/-! ### {k: v}, k a tuple -/
def tDispT (tk tv : TE) : TE := fun σ H Q => ∀ p, H p = none → tk σ (upd H p (.dT [])) fun y H1 => tv σ H1 fun v H2 => H2 p = some (.dT []) ∧ ∃ (b : Addr) (k : List L2.Key), y = .ref b ∧ H2 b = some (.tup (k.map kV)) ∧ Q (.ref p) (upd H2 p (.dT [(k, v)]))
theorem pe_dispT {X : Cx} {pos : Pos} {k v : Expr} {tk tv : TE} (hu : X.A.units + 1 < cLine) (hk : PE X k tk) (hv : PE X v tv) : PE X (.Dict [some k] [v] pos) (tDispT tk tv) := by
  refine ⟨fun pins s σ H Q I q => ?_⟩
  have hn := I.hok.fresh (Nat.le_refl s.heap.objs.size)
  have I1 := I.laid (a := s.heap.objs.size) (o := .dT []) (h' := s.heap.push { cls := .type "dict", data := .dict #[] }) (t' := s.toks) (fun _ _ q => Heap.get?_push_of_some _ q) (Nat.le_refl _) (dt_empty s.heap I.big)
  have hpl : (pairTrees [some k] [v] X.env pos).length = 1 := rfl
  rw [arm_eval_Dict, zip_pairTrees [some k] [v] X.env pos rfl rfl, dictDisplay_pairs (pairTrees [some k] [v] X.env pos) (fun z => nomatch z) (by rw [hpl]; decide)]
  refine wpAny_bind (wpAny_standAt (wpAny_bind (wpAny_subDictH (knd := tupleKind (mixKind X.prog X.w)) (Q := fun d s' => wpAny (model X.prog X.w) X.A (pure (Value.ref d)) _ X.xe s') (show X.A.units < cLine from Nat.lt_of_succ_lt hu) (by rw [hpl]; decide) ?_)))
  refine pairTrees_cons_walk (thn (hk.run pins _ σ _ _ I1 (q _ hn)) fun u s1 ⟨x, H1, I2, rx, q1⟩ => thn (hv.run pins s1 σ H1 _ I2 q1) fun w2 s2 ⟨y, H2, I3, ry, q2⟩ => pairTrees_nil_walk ?_)
  obtain ⟨e, b, ks, rfl, eb, q3⟩ := q2
  cases rx
  obtain ⟨z, hd, xs, rel, dd⟩ := dt_of I3.hok e
  cases rel
  refine ⟨[(ks, b, w2)], ⟨rfl, rfl, key_of I3.hok eb, trivial⟩, dd, fun h' tk dd' hs => wpAny_pure ⟨.ref s.heap.objs.size, _, ?_, rfl, q3⟩⟩
  obtain ⟨o, es, ep, h1, h2, h3, h4, h5, h6⟩ := dd'
  have hb : b ≠ s.heap.objs.size := fun z => by
    rw [z, e] at eb
    exact nomatch eb
  refine d_write I3 (by rw [e]; exact True.intro) hs ⟨o, h1⟩ ⟨(by show 1 ≤ sizeLine; decide), hd, [(ks, b, w2)], .cons ⟨rfl, (by rw [upd_ne hb]; exact eb), ry⟩ .nil, o, es, ep, h1, h2, h3, h4, h6⟩
/-! ### tuples of tuples of numbers -/
abbrev nats (l : List Nat) : List V := l.map fun (p : Nat) => V.int (p : Int)
abbrev natsD (l : List Nat) : List PyData := l.map fun (p : Nat) => PyData.int (p : Int)
def tkey (l : List Nat) : List L2.Key := l.map fun (p : Nat) => (Sum.inl (p : Int) : L2.Key)
theorem kV_tkey (l : List Nat) : (tkey l).map kV = nats l := by
  unfold tkey
  rw [List.map_map]
  rfl
theorem tkey_inj {l m : List Nat} (h : tkey l = tkey m) : l = m := by
  have : (tkey l).map kV = (tkey m).map kV := by rw [h]
  rw [kV_tkey, kV_tkey] at this
  exact List.map_inj_right (fun a b e => by injection e with e; omega) |>.mp this
/-- a turn at an address -/
def Tup (H : Hp) (p : Addr) (t : List Nat) : Prop := H p = some (.tup (nats t))
/-- turns at addresses, one by one -/
abbrev Tups (H : Hp) (ps : List Addr) (ts : List (List Nat)) : Prop := PySem.W.EachIs (Tup H) ps ts
theorem Tups.mono {H H' : Hp} {ps : List Addr} {ts : List (List Nat)} (s : ∀ p t, Tup H p t → Tup H' p t) (h : Tups H ps ts) : Tups H' ps ts := PySem.W.EachIs.mono (fun p t e => s p t e) h
theorem tups_len {H : Hp} {ps : List Addr} {ts : List (List Nat)} (h : Tups H ps ts) : ps.length = ts.length := h.length
def entT (ts : List (List Nat)) : List (List L2.Key × V) := ts.map fun t => (tkey t, V.bl true)
theorem tups_of_keys {H : Hp} : ∀ {ts : List (List Nat)} {bs : List Addr}, IsKeys H (entT ts) bs → Tups H bs ts
  | [], _, h => by cases h; exact .nil
  | t :: ts, _, h => by
    cases h with
    | cons h1 h2 =>
      refine .cons ?_ (tups_of_keys h2)
      have : H _ = some (.tup ((tkey t).map kV)) := h1
      rw [kV_tkey] at this
      exact this
theorem ints_nats : ∀ {l : List Nat} {us : List Value}, Vals (nats l) us → PySem.W.EachIs (fun (v : Value) (p : Nat) => ∃ t, v = .int (p : Int) t) us l
  | [], _, r => by cases r; exact .nil
  | p :: l, _, r => by
    cases r with
    | cons h t =>
      obtain ⟨tk, rfl⟩ := h
      exact .cons ⟨tk, rfl⟩ (ints_nats t)
theorem reads_nats {h : Heap} : ∀ {l : List Nat} {us : List Value}, PySem.W.EachIs (fun (v : Value) (p : Nat) => ∃ t, v = .int (p : Int) t) us l → ReadsAll h us (natsD l) []
  | _, _, .nil => .nil
  | _, _, .cons ⟨tk, e⟩ r => by
    subst e
    exact .cons (.int _ _) (reads_nats (h := h) r)
abbrev tupD (t : List Nat) : PyData := .tuple (natsD t)
theorem depth_nats : ∀ l : List Nat, PyData.depthAll (natsD l) = 0
  | [] => rfl
  | p :: l => by
    show max 0 (PyData.depthAll (natsD l)) = 0
    rw [depth_nats l]
    rfl
theorem depth_tup (t : List Nat) : (tupD t).depth = 1 := by
  show PyData.depthAll (natsD t) + 1 = 1
  rw [depth_nats]
theorem alike_nats : ∀ l m : List Nat, PySem.W.alikeAll (natsD l) (natsD m) = true
  | [], m => by simp [PySem.W.alikeAll]
  | p :: l, [] => by simp [PySem.W.alikeAll]
  | p :: l, q :: m => by
    show (PySem.W.alike (.int (p : Int)) (.int (q : Int)) && PySem.W.alikeAll (natsD l) (natsD m)) = true
    rw [alike_nats l m]
    rfl
theorem le_fun : PySem.W.dataLe false tupD = Pm.leN := by
  have h := PySem.W.dataLe_rows Pm.toI
  funext a b
  have e := congrFun (congrFun h a) b
  have e2 : PySem.W.dataLe false tupD a b = PySem.W.dataLe false (fun b => .list ((Pm.toI b).map .int)) a b := by
    have q : ∀ t : List Nat, natsD t = (Pm.toI t).map PyData.int := fun t => by
      unfold Pm.toI
      rw [List.map_map]
      rfl
    show (!PySem.W.dataLt (.tuple (natsD b)) (.tuple (natsD a))) = (!PySem.W.dataLt (.list ((Pm.toI b).map PyData.int)) (.list ((Pm.toI a).map PyData.int)))
    rw [q, q]
    rfl
  rw [e2, e]
  rfl
section
variable {X : Cx} {pins : List (Addr × Obj)} {σ : L2.St} {H : Hp} {s : Shared}
theorem read_tup {p : Addr} {t : List Nat} (I : Inv X pins σ H s) (h : Tup H p t) : Reads s.heap (.ref p) (tupD t) [] := by
  obtain ⟨ts, rt, ht, _⟩ := I.tuple (SqT.of (K := X.K) h)
  obtain ⟨o, ho, hc, n, hd⟩ := ht
  exact .tuple ho hc hd (reads_nats (h := s.heap) (ints_nats rt))
theorem read_tups (I : Inv X pins σ H s) : ∀ {ps : List Addr} {ts : List (List Nat)}, Tups H ps ts → PySem.W.EachIs (fun v t => Reads s.heap v (tupD t) []) (ps.map Value.ref) ts
  | _, _, .nil => .nil
  | _, _, .cons h r => .cons (read_tup I h) (read_tups I r)
end
/-! ### t in rows -/
theorem refs_vals : ∀ {ps : List Addr} {us : List Value}, Vals (ps.map V.ref) us → us = ps.map Value.ref
  | [], _, r => by cases r; rfl
  | p :: ps, _, r => by
    cases r with
    | cons h t =>
      cases h
      rw [refs_vals t]
      rfl
theorem canLay : ∀ l : List Nat, PyData.canLayAll0 (natsD l) = true
  | [] => rfl
  | p :: l => by
    show (true && PyData.canLayAll0 (natsD l)) = true
    rw [canLay l]
    rfl
theorem eqvN : ∀ l m : List Nat, PyData.eqvAll (natsD l) (natsD m) = decide (l = m)
  | [], [] => rfl
  | [], _ :: _ => rfl
  | _ :: _, [] => rfl
  | p :: l, q :: m => by
    show (((p : Int) == (q : Int)) && PyData.eqvAll (natsD l) (natsD m)) = _
    rw [eqvN l m, Bool.eq_iff_iff]
    simp only [Bool.and_eq_true, beq_iff_eq, decide_eq_true_eq, List.cons.injEq]
    constructor
    · rintro ⟨h1, h2⟩
      exact ⟨by omega, h2⟩
    · rintro ⟨rfl, h2⟩
      exact ⟨rfl, h2⟩
def Rows (H : Hp) (p : Addr) (ts : List (List Nat)) : Prop := ∃ ps, H p = some (.tup (ps.map V.ref)) ∧ Tups H ps ts
def rInT (neg : Bool) : R2 := fun x y H Q => ∃ (b p : Addr) (t : List Nat) (ts : List (List Nat)), x = .ref b ∧ y = .ref p ∧ Tup H b t ∧ Rows H p ts ∧ Q (.bl (if neg = true then !decide (t ∈ ts) else decide (t ∈ ts))) H
open Classical in
theorem in_core {X : Cx} {pins : List (Addr × Obj)} {σ : L2.St} {H : Hp} {s : Shared} (hu : X.A.units + 64 < cLine) (I : Inv X pins σ H s) {b p : Addr} {t : List Nat} {ts : List (List Nat)} (hb : Tup H b t) (hp : Rows H p ts) :
    ∃ (its : Array Value) (e : Value → Bool), s.heap.IsTuple p its ∧ (∀ y, y ∈ its → SeqAt.EqAt X.A.in1 s y (.ref b) (e y)) ∧ its.any e = decide (t ∈ ts) := by
  obtain ⟨ps, e1, ht⟩ := hp
  obtain ⟨us, rv, pl, _⟩ := I.tuple (SqT.of (K := X.K) e1)
  have eu := refs_vals rv
  subst eu
  have rb := read_tup I hb
  have key : ∀ {ps : List Addr} {ts : List (List Nat)}, Tups H ps ts → ∀ q ∈ ps, ∃ u, Tup H q u ∧ u ∈ ts := by
    intro ps ts h
    induction h with
    | nil => intro q hq; exact nomatch hq
    | @cons a u ps ts h _ ih =>
      intro q hq
      rcases List.mem_cons.mp hq with rfl | hq
      · exact ⟨u, h, List.mem_cons_self⟩
      · obtain ⟨v, h1, h2⟩ := ih q hq
        exact ⟨v, h1, List.mem_cons_of_mem _ h2⟩
  have key2 : ∀ {ps : List Addr} {ts : List (List Nat)}, Tups H ps ts → ∀ u ∈ ts, ∃ q ∈ ps, Tup H q u := by
    intro ps ts h
    induction h with
    | nil => intro q hq; exact nomatch hq
    | @cons a u ps ts h _ ih =>
      intro q hq
      rcases List.mem_cons.mp hq with rfl | hq
      · exact ⟨a, List.mem_cons_self, h⟩
      · obtain ⟨v, h1, h2⟩ := ih q hq
        exact ⟨v, List.mem_cons_of_mem _ h1, h2⟩
  have inj : ∀ {q : Addr} {u v : List Nat}, Tup H q u → Tup H q v → u = v := fun {q u v} h1 h2 => by
    have h1' : H q = some (.tup (nats u)) := h1
    have h2' : H q = some (.tup (nats v)) := h2
    rw [h1'] at h2'
    injection h2' with h2'
    injection h2' with h2'
    exact (List.map_inj_right (fun a b e => by injection e with e; omega)).mp h2'
  let e : Value → Bool := fun y => decide (∃ q, y = .ref q ∧ Tup H q t)
  refine ⟨_, e, pl, fun y hy => ?_, ?_⟩
  · have hy : y ∈ ps.map Value.ref := by simpa using hy
    obtain ⟨q, hq, rfl⟩ := List.mem_map.mp hy
    obtain ⟨u, hu1, hu2⟩ := key ht q hq
    have rq := read_tup I hu1
    have q1 := PySem.SeqAt.eqAt_reads (tupD u) (tupD t) X.A.in1 s (.ref q) (.ref b) [] [] rq rb (canLay u) (canLay t) (by
      rw [depth_tup, depth_tup]
      show X.A.units + 1 + 1 < cLine
      omega)
    have q2 : PyData.eqv (tupD u) (tupD t) = e (.ref q) := by
      show PyData.eqvAll (natsD u) (natsD t) = decide (∃ q', Value.ref q = Value.ref q' ∧ Tup H q' t)
      rw [eqvN, Bool.eq_iff_iff, decide_eq_true_iff, decide_eq_true_iff]
      constructor
      · rintro rfl
        exact ⟨q, rfl, hu1⟩
      · rintro ⟨q', h1, h2⟩
        cases h1
        exact inj hu1 h2
    rw [q2] at q1
    exact q1
  · rw [Bool.eq_iff_iff, decide_eq_true_iff]
    have : (ps.map Value.ref).toArray.any e = (ps.map Value.ref).any e := by simp
    rw [this, List.any_eq_true]
    constructor
    · rintro ⟨y, hy, h⟩
      obtain ⟨q, hq, rfl⟩ := List.mem_map.mp hy
      obtain ⟨q', h1, h2⟩ := of_decide_eq_true h
      cases h1
      obtain ⟨u, hu1, hu2⟩ := key ht q hq
      rw [inj h2 hu1]
      exact hu2
    · intro h
      obtain ⟨q, hq, h2⟩ := key2 ht t h
      exact ⟨.ref q, List.mem_map_of_mem hq, decide_eq_true ⟨q, rfl, h2⟩⟩
theorem op_inT {X : Cx} (hu : X.A.units + 64 < cLine) : OpR X (compareOp .In) (rInT false) := by
  intro pins s σ H x y v u Q I rx ry h
  obtain ⟨b, p, t, ts, rfl, rfl, hb, hp, q⟩ := h
  cases rx
  cases ry
  obtain ⟨its, e, pl, he, ha⟩ := in_core hu I hb hp
  refine SeqAt.in_tupleAt e pl he ⟨.bl _, H, I, rfl, ?_⟩
  rw [ha]
  exact q
theorem op_notInT {X : Cx} (hu : X.A.units + 64 < cLine) : OpR X (compareOp .NotIn) (rInT true) := by
  intro pins s σ H x y v u Q I rx ry h
  obtain ⟨b, p, t, ts, rfl, rfl, hb, hp, q⟩ := h
  cases rx
  cases ry
  obtain ⟨its, e, pl, he, ha⟩ := in_core hu I hb hp
  refine SeqAt.notIn_tupleAt e pl he ⟨.bl _, H, I, rfl, ?_⟩
  rw [ha]
  exact q
/-! ### sorted(d) -/
section
variable {prog : Program} {w : World} {A : Around} {E : Value → Shared → Prop} {s : Shared}
theorem collect_dict {T : String} {r d : Addr} {n : Nat} {P : Nat → Value → Prop} {OK : Heap → Prop} {Q : List Value → Shared → Prop} (K : PySem.W.KdlSrc prog w T r d n P OK) (hh : A.handled = none) (hok : OK s.heap) (hn : n ≤ sizeLine)
    (hQ : ∀ h' tk (acc' : Array Value), (∀ b o, s.heap.get? b = some o → h'.get? b = some o) → s.heap.objs.size < h'.objs.size → ItemsOf P acc' n → Q acc'.toList { s with heap := h', toks := tk }) :
    wpAny (model prog w) A (collect (.ref r)) Q E s := by
  have hS : (s.heap.push (seqObj "list" #[] 0)).get? s.heap.objs.size = some { cls := .type "list", data := .seq #[] 0 } := Heap.get?_push_size _ rfl
  have hlt := K.there _ hok
  have aux : ∀ (R : Result → Shared → Prop), (∀ h' tk (acc' : Array Value) c', (∀ b o, s.heap.get? b = some o → h'.get? b = some o) → h'.get? s.heap.objs.size = some { cls := .type "list", dict := none, data := .seq acc' c', slots := #[] } → ItemsOf P acc' n →
      R (.ok (.ret (.ref s.heap.objs.size))) { s with heap := h', toks := tk }) → codeAny (model prog w) A (.builtin "list.__iadd__" ⟨[.ref s.heap.objs.size, .ref r], []⟩) R { s with heap := s.heap.push (seqObj "list" #[] 0) } := fun R hR => by
    refine codeAny_builtin entry_list_iadd' ?_
    show wpAny _ A.in1 (Builtin.List.listExtendWith (.ref s.heap.objs.size) (.ref r) (.ref s.heap.objs.size)) _ _ { s with heap := s.heap.push (seqObj "list" #[] 0) }
    exact PySem.W.kdl_extend (A := A) (R := R) (s := { s with heap := s.heap.push (seqObj "list" #[] 0) }) K hh (K.keep _ _ hok fun b _ o e => Heap.get?_push_of_some _ e) _ (Nat.ne_of_gt hlt.1) (Nat.ne_of_gt hlt.2) _ 0 hS
      (fun h' tk acc' c' hk hS' hacc => hR h' tk acc' c' (fun b o e => hk b o (Nat.ne_of_lt (Heap.lt_size e)) (Heap.get?_push_of_some _ e)) hS' hacc) hn
  unfold collect
  refine wpAny_bind (wpAny_runValue (codeAny_builtin entry_proto_collect' ?_))
  show wpAny _ _ (do again (.builtin "list.__iadd__" ⟨[← newList [], .ref r], []⟩)) _ _ s
  refine wpAny_bind (wpAny_newList (wpAny_pure ⟨Code.quiet_builtin _ (by decide +kernel), aux _ fun h' tk acc' c' hk hS' hacc => ?_⟩))
  show wpAny (model prog w) A (do
      let o ← load s.heap.objs.size
      match o.data with
      | .seq xs _ => pure xs.toList
      | _ => unsupported "internal:collect") Q E { s with heap := h', toks := tk }
  refine wpAny_bind (wpAny_load hS' ?_)
  exact wpAny_pure (hQ h' tk acc' hk (Heap.lt_size hS') hacc)
theorem sorted_dict {T : String} {r d : Addr} {n : Nat} {P : Nat → Value → Prop} {OK : Heap → Prop} {ts : List (List Nat)} {Rr : Value → List Nat → Prop} {Q : Value → Shared → Prop} (K : PySem.W.KdlSrc prog w T r d n P OK) (hh : A.handled = none) (hok : OK s.heap) (hn : n ≤ 5000) (hu : A.units + 64 < cLine)
    (hP : ∀ acc' : Array Value, ItemsOf P acc' n → PySem.W.EachIs Rr acc'.toList ts ∧ PySem.W.EachIs (fun v t => Reads s.heap v (tupD t) []) acc'.toList ts) (ht : ∀ t ∈ ts, t ≠ [])
    (h : ∀ h' tk out c a, (∀ b o, s.heap.get? b = some o → h'.get? b = some o) → s.heap.objs.size ≤ a → h'.get? a = some { cls := .type "list", dict := none, data := .seq (List.toArray out) c, slots := #[] } → out.length = ts.length → PySem.W.EachIs Rr out (ts.mergeSort Pm.leN) → Q (.ref a) { s with heap := h', toks := tk }) :
    wpAny (model prog w) A (call (.builtin "sorted") [.ref r]) Q E s := by
  refine Calls.call_function_entry kind_sorted plain_sorted entry_sorted (args_sorted1 _) ?_
  unfold Builtin.«sorted»
  refine wpAny_bind (m := checkCount "sorted" 1 1 _) (wpAny_pure ?_)
  refine wpAny_bind (collect_dict K hh hok (Nat.le_trans hn (by decide)) fun h' tk acc' hk hlt hacc => ?_)
  obtain ⟨e1, e2⟩ := hP acc' hacc
  have hl : acc'.toList.length ≤ sizeLine := by rw [Array.length_toList, hacc.1]; exact Nat.le_trans hn (by decide)
  have htl : ts.length = n := by rw [← e1.length, Array.length_toList]; exact hacc.1
  refine wpAny_bind (wpAny_newList (hsz := by simpa using hl) ?_)
  have hoL : (h'.push (seqObj "list" acc'.toList.toArray 0)).get? h'.objs.size = some (seqObj "list" acc'.toList.toArray 0) := Heap.get?_push_size _ rfl
  have hsz : s.heap.objs.size ≤ h'.objs.size := Nat.le_of_lt hlt
  have er : PySem.W.EachIs (fun v t => ∃ as, Reads (h'.push (seqObj "list" acc'.toList.toArray 0)) v (tupD t) as ∧ h'.objs.size ∉ as) acc'.toList ts := e2.mono fun v t q => ⟨[], PyProof.Rows.Reads.keeps (fun b o e => Heap.get?_push_of_some _ (hk b o e)) q, fun z => nomatch z⟩
  refine wpAny_bind (wpAny_holding (PySem.W.list_sort_data (A := _) (s := { s with heap := h'.push (seqObj "list" acc'.toList.toArray 0), toks := tk }) hoL e1 er
    (fun d hd d' hd' => ?_) (.inl fun d hd => ?_) ?_ (fun t _ => ?_) fun out hlen eo => ?_))
  · obtain ⟨a, _, rfl⟩ := List.mem_map.mp hd
    obtain ⟨b, _, rfl⟩ := List.mem_map.mp hd'
    exact alike_nats a b
  · obtain ⟨a, ha, rfl⟩ := List.mem_map.mp hd
    cases a with
    | nil => exact absurd rfl (ht _ ha)
    | cons p l => exact ⟨_, _, rfl⟩
  · rw [htl]
    exact Nat.le_trans hn (by decide)
  · rw [depth_tup]
    show A.units + 1 + 1 + 1 < cLine
    omega
  · rw [le_fun] at eo
    obtain ⟨c, hc⟩ := sortedHeap_at (out := out.toArray) hoL
    exact wpAny_pure ⟨_, rfl, h _ _ out c _ (fun b o e => by
      rw [sortedHeap_old (Nat.ne_of_lt (Heap.lt_size (hk b o e))) (by rw [Heap.size_push]; exact Nat.lt_succ_of_lt (Heap.lt_size (hk b o e)))]
      exact Heap.get?_push_of_some _ (hk b o e)) hsz hc hlen eo⟩
end
theorem keys_tups {H : Hp} : ∀ {ts : List (List Nat)} {xs : List (List L2.Key × Addr × Value)}, KT H (entT ts) xs → Tups H (xs.map fun x => x.2.1) ts
  | [], _, h => by cases h; exact .nil
  | t :: ts, _, h => by
    cases h with
    | cons h1 h2 =>
      refine .cons ?_ (keys_tups h2)
      have := h1.2.1
      rw [kV_tkey] at this
      exact this
theorem refs_each {H : Hp} : ∀ {out : List Value} {ts : List (List Nat)}, PySem.W.EachIs (fun v t => ∃ p, v = Value.ref p ∧ Tup H p t) out ts → ∃ ps : List Addr, out = ps.map Value.ref ∧ Tups H ps ts
  | _, _, .nil => ⟨[], rfl, .nil⟩
  | _, _, .cons ⟨p, e, h⟩ r => by
    obtain ⟨ps, e2, h2⟩ := refs_each r
    exact ⟨p :: ps, by rw [e, e2]; rfl, .cons h h2⟩
theorem each_refs {H : Hp} : ∀ {ps : List Addr} {ts : List (List Nat)}, Tups H ps ts → PySem.W.EachIs (fun v t => ∃ p, v = Value.ref p ∧ Tup H p t) (ps.map Value.ref) ts
  | _, _, .nil => .nil
  | _, _, .cons h r => .cons ⟨_, rfl, h⟩ (each_refs r)
def rSortD : List V → Hp → VK → Prop := fun vs H Q => ∃ (d : Addr) (ts : List (List Nat)), vs = [V.ref d] ∧ H d = some (.dT (entT ts)) ∧ ts.length ≤ 5000 ∧ (∀ t ∈ ts, t ≠ []) ∧
  ∀ p ps, H p = none → Tups H ps (ts.mergeSort Pm.leN) → Q (.ref p) (upd H p (.lst (ps.map V.ref)))
theorem cr_sortedD {X : Cx} (hc : X.calm = true) (hu : X.A.units + 64 < cLine) : CallR X (.builtin "sorted") rSortD := by
  intro pins s σ H vs us Q I r h
  obtain ⟨d, ts, rfl, hd, hl, hne, q⟩ := h
  obtain ⟨u, rfl, rx⟩ := r.one
  cases rx
  obtain ⟨z, hs, ks, pr, o, es, ep, ho, hx, hdt, he, hn⟩ := (show ObjOk X.prog X.w H s.heap d (.dT (entT ts)) from I.hok d _ hd)
  have l1 : es.size = ks.length := size_of_entries he
  have l2 : (entT ts).length = ks.length := Paired.length pr
  have l3 : (entT ts).length = ts.length := List.length_map ..
  have kt := keys_tups pr
  refine sorted_dict (ts := ts) (Rr := fun v t => ∃ p, v = Value.ref p ∧ Tup H p t) (kdl_raw hs hx hdt) (I.ok.hd hc) ho (by omega) hu (fun acc' it => ?_) hne fun h' tk out c a kp hle e hlen eo => ?_
  · have ea : acc'.toList = ks.map fun x => Value.ref x.2.1 := by
      have hl : acc'.toList.length = ks.length := by rw [Array.length_toList, it.1]; exact l1
      apply List.ext_getElem?
      intro j
      rw [List.getElem?_map]
      cases hj : acc'.toList[j]? with
      | none =>
        have h1 := List.getElem?_eq_none_iff.mp hj
        rw [List.getElem?_eq_none (by omega)]
        all_goals rfl
      | some v =>
        obtain ⟨en, hen, hv⟩ := it.2 j v (by rw [← Array.getElem?_toList]; exact hj)
        have qe := entry_at he j
        rw [hen] at qe
        cases hb : ks[j]? with
        | none =>
          rw [hb] at qe
          exact nomatch (show some en = none from qe)
        | some b =>
          rw [hb] at qe
          have e2 : en = entryOfKey (tupleKind (mixKind X.prog X.w)) b := Option.some.inj qe
          rw [hv, e2]
          all_goals rfl
    have eb : acc'.toList = (ks.map fun x => x.2.1).map Value.ref := by rw [ea, List.map_map]; all_goals rfl
    rw [eb]
    exact ⟨each_refs kt, read_tups I kt⟩
  · obtain ⟨ps, rfl, ht⟩ := refs_each eo
    refine ⟨.ref a, _, I.laid (t' := tk) (o := .lst (ps.map V.ref)) kp hle ?_, rfl, q _ _ (I.hok.fresh hle) ht⟩
    refine ⟨?_, ps.map Value.ref, c, vals_refs ps, e⟩
    rw [List.length_map]
    rw [List.length_map] at hlen
    rw [hlen]
    exact Nat.le_trans hl (by decide)
end Sr

set_option Elab.async false
set_option linter.all false
set_option maxRecDepth 100000
set_option maxHeartbeats 3200000
namespace K42
open PySem L2 Tx Tg Tm
def top (i : Nat) : Stmt := PySem.Challenge.pw_whatcounts_k42_whole_spanned_turns.main.body.getD i (.Pass ⟨0, 0, 0, 0⟩)
abbrev sInt : Stmt := top 8
abbrev sBetween : Stmt := top 10
abbrev sMost : Stmt := top 11
abbrev sStill : Stmt := top 13
abbrev sJoint : Stmt := top 14
abbrev sUndoneOf : Stmt := top 15
abbrev sCycles : Stmt := top 16
abbrev sOrderOf : Stmt := top 17
abbrev sSpan : Stmt := top 19
abbrev sTurnOf : Stmt := top 23
abbrev sIsTurn : Stmt := top 24
abbrev sJ : Stmt := top 25
abbrev sU : Stmt := top 26
abbrev sO : Stmt := top 27
abbrev sCheck : Stmt := top 28
abbrev sSpanned : Stmt := top 29
abbrev sLedOn : Stmt := top 31
abbrev sMade : Stmt := top 32
abbrev sCup : Stmt := top 33
abbrev sBit : Stmt := top 34
abbrev sPick : Stmt := top 35
abbrev sDealt : Stmt := top 36
abbrev sAny : Stmt := top 37
abbrev sBeside : Stmt := top 38
abbrev sBlock : Stmt := top 39
abbrev sMoves : Stmt := top 40
abbrev sRight : Stmt := top 41
abbrev sLaw : Stmt := top 42
/-! ### values -/
inductive Val (H : Hp) : V → PyData → Prop
  | non : Val H .non .none
  | bl (b : Bool) : Val H (.bl b) (.bool b)
  | int (n : Int) : Val H (.int n) (.int n)
  | str (z : Str) : Val H (.str z) (.str z)
  | lst {a : Addr} (l : List Str) (h : H a = some (.lst (l.map V.str))) : Val H (.ref a) (.list (l.map PyData.str))
  | tup {a : Addr} (l : List Str) (h : H a = some (.tup (l.map V.str))) : Val H (.ref a) (.tuple (l.map PyData.str))
  | tupI {a : Addr} (l : List Int) (h : H a = some (.tup (l.map V.int))) : Val H (.ref a) (.tuple (l.map PyData.int))
  | dct {a : Addr} (kvs : List (Str × Int)) (h : H a = some (.dK (kvs.map fun p => (Sum.inr p.1, V.int p.2)))) : Val H (.ref a) (.dict (kvs.map fun p => (.str p.1, .int p.2)))
theorem Val.same {H H' : Hp} {v : V} {d : PyData} (s : Same H H') (h : Val H v d) : Val H' v d := by
  cases h with
  | non => exact .non
  | bl b => exact .bl b
  | int n => exact .int n
  | str z => exact .str z
  | lst l h => exact .lst l (s _ _ h)
  | tup l h => exact .tup l (s _ _ h)
  | tupI l h => exact .tupI l (s _ _ h)
  | dct l h => exact .dct l (s _ _ h)
def intTy : PyData → Bool
  | .int _ => true
  | .bool _ => true
  | _ => false
def strTy : PyData → Bool
  | .str _ => true
  | _ => false
def blTy : PyData → Bool
  | .bool _ => true
  | _ => false
theorem k_NoneType_int : kitB "NoneType" "int" = some false := by decide +kernel
theorem k_NoneType_str : kitB "NoneType" "str" = some false := by decide +kernel
theorem k_NoneType_bool : kitB "NoneType" "bool" = some false := by decide +kernel
theorem k_bool_int : kitB "bool" "int" = some true := by decide +kernel
theorem k_bool_str : kitB "bool" "str" = some false := by decide +kernel
theorem k_bool_bool : kitB "bool" "bool" = some true := by decide +kernel
theorem k_int_int : kitB "int" "int" = some true := by decide +kernel
theorem k_int_str : kitB "int" "str" = some false := by decide +kernel
theorem k_int_bool : kitB "int" "bool" = some false := by decide +kernel
theorem k_str_int : kitB "str" "int" = some false := by decide +kernel
theorem k_str_str : kitB "str" "str" = some true := by decide +kernel
theorem k_str_bool : kitB "str" "bool" = some false := by decide +kernel
theorem k_list_int : kitB "list" "int" = some false := by decide +kernel
theorem k_list_str : kitB "list" "str" = some false := by decide +kernel
theorem k_list_bool : kitB "list" "bool" = some false := by decide +kernel
theorem k_tuple_int : kitB "tuple" "int" = some false := by decide +kernel
theorem k_tuple_str : kitB "tuple" "str" = some false := by decide +kernel
theorem k_tuple_bool : kitB "tuple" "bool" = some false := by decide +kernel
theorem k_dict_int : kitB "dict" "int" = some false := by decide +kernel
theorem k_dict_str : kitB "dict" "str" = some false := by decide +kernel
theorem k_dict_bool : kitB "dict" "bool" = some false := by decide +kernel
theorem Val.ty {K : PySem.W.Frag} {H : Hp} {v : V} {d : PyData} (h : Val H v d) : ∃ t, TyX K H v t ∧ PySem.W.kitOne K t (.type "int") = some (intTy d) ∧ PySem.W.kitOne K t (.type "str") = some (strTy d) ∧ PySem.W.kitOne K t (.type "bool") = some (blTy d) := by
  cases h with
  | non => exact ⟨_, .base .non, kit_ty k_NoneType_int, kit_ty k_NoneType_str, kit_ty k_NoneType_bool⟩
  | bl b => exact ⟨_, .base (.bl b), kit_ty k_bool_int, kit_ty k_bool_str, kit_ty k_bool_bool⟩
  | int n => exact ⟨_, .base (.int n), kit_ty k_int_int, kit_ty k_int_str, kit_ty k_int_bool⟩
  | str z => exact ⟨_, .base (.str z), kit_ty k_str_int, kit_ty k_str_str, kit_ty k_str_bool⟩
  | lst l h => exact ⟨_, .base (.lst h), kit_ty k_list_int, kit_ty k_list_str, kit_ty k_list_bool⟩
  | tup l h => exact ⟨_, .base (.tup h), kit_ty k_tuple_int, kit_ty k_tuple_str, kit_ty k_tuple_bool⟩
  | tupI l h => exact ⟨_, .base (.tup h), kit_ty k_tuple_int, kit_ty k_tuple_str, kit_ty k_tuple_bool⟩
  | dct l h => exact ⟨_, .base (.dK h), kit_ty k_dict_int, kit_ty k_dict_str, kit_ty k_dict_bool⟩

/-- what the walk asks of the module's names -/
structure Txt (K : PySem.W.Frag) (mg : Str → Option Value) : Prop where
  isi : mg "isinstance" = none
  int : mg "int" = none
  bool : mg "bool" = none
  abs : mg "abs" = none
  len : mg "len" = none
  list : mg "list" = none
  sorted : mg "sorted" = none
  repr : mg "repr" = none
  range : mg "range" = none
  max : mg "max" = none
  min : mg "min" = none
  all : mg "all" = none
  tuple : mg "tuple" = none
  enum : mg "enumerate" = none
  long : ∃ t, mg "LEAST_TOO_LONG" = some (.int (10 ^ 200) t)
  mPts : ∃ t, mg "MAX_POINTS" = some (.int 60 t)
  mTur : ∃ t, mg "MAX_TURNS" = some (.int 2000 t)
  dict : mg "dict" = none
  lcm : mg "lcm" = some (.builtin "math.lcm")
section
variable {P : Program} {w : World} {K : PySem.W.Frag} {mg : Str → Option Value} {base : Heap}
def spInt : Sp := fun vs H Q _ => ∃ (v : V) (d : PyData), vs = [v] ∧ Val H v d ∧ Q (.bl (isInt d)) H
theorem scInt : FnScope ["value"] ["value"] (defScope sInt) := ⟨rfl, rfl, rfl, by decide +kernel, rfl, by decide +kernel, by decide +kernel⟩
theorem isInt_abs (n : Int) : decide ((if n < 0 then -n else n) < 10 ^ 200) = isInt (.int n) := by
  show _ = decide (n.natAbs < 10 ^ 200)
  have e : ((10 ^ 200 : Nat) : Int) = 10 ^ 200 := by norm_cast
  rw [← e]
  generalize (10 ^ 200 : Nat) = M
  refine decide_eq_decide.mpr ?_
  split <;> omega
theorem ok_int {f : Addr} {fd : FuncData} (F : Fun K "is_integer" "is_integer" sInt f fd) (T : Txt K mg) : FnOk P w K mg base CX0 1 f fd ["value"] spInt := by
  refine F.ok scInt (fun vs H Q E h => ?_) (fun cdv A outer s H vs Q E hr h => ?_)
  · obtain ⟨v, d, rfl, _⟩ := h
    rfl
  · obtain ⟨v, d, rfl, hv, q⟩ := h
    obtain ⟨tl, hl⟩ := T.long
    refine ⟨_, pss_one (ps_ret (pe_and (pe_callB call_isi (by rfl) T.isi (by decide +kernel) (pa_cons (pv 0) (pa_cons (pe_bltn (v := .ty "int") (by rfl) T.int (by decide +kernel) rfl) pa_nil)))
      (pe_and (pe_not (pe_callB call_isi (by rfl) T.isi (by decide +kernel) (pa_cons (pv 0) (pa_cons (pe_bltn (v := .ty "bool") (by rfl) T.bool (by decide +kernel) rfl) pa_nil))))
      (pe_one (pe_cmpR op_lt (pe_callB call_abs (by rfl) T.abs (by decide +kernel) (pa_cons (pv 0) pa_nil)) (pe_glob (v := .int (10 ^ 200)) rfl hl ⟨_, rfl⟩) (nomark _)))))), ?_⟩
    obtain ⟨t, ty, k1, _, k3⟩ := Val.ty (K := K) hv
    refine ⟨_, rfl, _, _, _, _, _, rfl, .ty "int", ty, k1, intTy d, rfl, ?_⟩
    cases hv with
    | int n =>
      refine iteT ⟨_, rfl, _, _, _, _, _, rfl, .ty "bool", ty, k3, _, rfl, _, rfl, iteT ?_⟩
      refine ⟨_, rfl, n, rfl, _, _, rfl, rfl, ?_⟩
      show Q (.bl (decide ((if n < 0 then -n else n) < 10 ^ 200))) H
      rw [isInt_abs]
      exact q
    | bl b => exact iteT ⟨_, rfl, _, _, _, _, _, rfl, .ty "bool", ty, k3, _, rfl, _, rfl, iteF q⟩
    | _ => exact iteF q

end
/-- a def of the text, found under its name -/
structure Df (K : PySem.W.Frag) (mg : Str → Option Value) (x : Str) (st : Stmt) (ps : List Str) (f : Addr) (fd : FuncData) : Prop where
  F : Fun K x x st f fd
  m : mg x = some (.ref f)
  b : Binds K fd ps []

theorem same_upd {H : Hp} {p : Addr} {o : HO} (h : H p = none) : Same H (upd H p o) := fun b u e => by
  rw [upd_ne (ne_of_none e h)]
  exact e
/-- a drawer: three ints -/
def Cup (H : Hp) (c : Addr) : Prop := ∃ a0 a1 a2 : Int, H c = some (.lst [.int a0, .int a1, .int a2])
/-- all but what stands at c stays -/
def But (c : Addr) (H H' : Hp) : Prop := ∀ b o, b ≠ c → H b = some o → H' b = some o
theorem But.refl (c : Addr) (H : Hp) : But c H H := fun _ _ _ e => e
theorem But.trans {c : Addr} {H H1 H2 : Hp} (a : But c H H1) (b : But c H1 H2) : But c H H2 := fun x o n e => b x o n (a x o n e)
theorem But.of {c : Addr} {H H' : Hp} (s : Same H H') : But c H H' := fun b o _ e => s b o e
theorem But.put {c : Addr} {H : Hp} {o : HO} : But c H (upd H c o) := fun b u n e => by rw [upd_ne n]; exact e

section
variable {P : Program} {w : World} {K : PySem.W.Frag} {mg : Str → Option Value} {base : Heap}
def spCup (K : PySem.W.Frag) : Sp := fun vs H Q _ => ∃ (a : Addr) (ns : List Int) (k : Nat), vs = [.ref a, .int k] ∧ SqL K H a (ns.map V.int) ∧ ns.length ≤ 63 ∧ k ≤ 100 ∧ ∀ p H', H p = none → Same H H' → Cup H' p → Q (.ref p) H'
theorem scCup : FnScope ["_law_script", "_law_at", "_law_cell", "_law_great", "_law_blend"] ["_law_script", "_law_at"] (defScope sCup) := ⟨rfl, rfl, rfl, by decide +kernel, rfl, by decide +kernel, by decide +kernel⟩
theorem ok_cup {f : Addr} {fd : FuncData} (F : Fun K "_law_cup" "_law_cup" sCup f fd) (T : Txt K mg) : FnOk P w K mg base CX0 1 f fd ["_law_script", "_law_at"] (spCup K) := by
  refine F.ok scCup (fun vs H Q E h => ?_) (fun cdv A outer s H vs Q E hr h => ?_)
  · obtain ⟨a, ns, k, rfl, _⟩ := h
    rfl
  · obtain ⟨a, ns, k, rfl, hS, hlen, hk, q⟩ := h
    refine ⟨_, pss_cons (ps_set (i := 2) scCup.nd rfl (Or.inl rfl) (pe_ifExp (pt_cmpR op_lt (pv 1) (pe_callB call_len (by rfl) T.len PySem.boot_len (pa_cons (pv 0) pa_nil)) (nomark _))
        (pe_ix ix_list (pv 0) (pv 1) (fun _ _ => rfl)) (pe_op op_add (pe_op op_mul pe_int (pv 1)) pe_int)))
      (pss_cons (ps_set (i := 3) scCup.nd rfl (Or.inl rfl) (pe_op op_modN (pe_callTy call_int1 (by rfl) T.int (by decide +kernel) (pa_cons (pe_callB call_abs (by rfl) T.abs (by decide +kernel) (pa_cons (pv 2) pa_nil)) pa_nil))
        (pe_op op_powW (pe_op op_pow pe_int pe_int) pe_int)))
      (pss_cons (ps_set (i := 4) scCup.nd rfl (Or.inl rfl) (pe_op op_add (pe_op op_add (pe_op op_add
          (pe_op op_mul (pe_op op_modN (pe_callTy call_int1 (by rfl) T.int (by decide +kernel) (pa_cons (pv 3) pa_nil)) pe_int) pe_int) (pe_op op_mul pe_int (pv 1)))
          (pe_op op_mul pe_int (pe_callTy call_int1 (by rfl) T.int (by decide +kernel) (pa_cons (pe_cmpR op_lt (pv 2) pe_int (nomark _)) pa_nil)))) pe_int))
      (pss_one (ps_ret (pe_lst (pa_cons (pe_callB (call_max2 rfl) (by rfl) T.max (by decide +kernel) (pa_cons pe_int (pa_cons (pe_op op_sub (pv 3) (pe_op op_pow pe_int pe_int)) pa_nil)))
        (pa_cons (pe_op op_modN (pe_callTy call_int1 (by rfl) T.int (by decide +kernel) (pa_cons (pv 4) pa_nil)) pe_int) (pa_cons pe_int pa_nil)))))))), ?_⟩
    refine ⟨_, rfl, _, rfl, _, ns.length, rfl, .inl ⟨_, hS, by rw [List.length_map]⟩, _, _, rfl, rfl, _, rfl, ?_⟩
    refine ite2 (fun hc => ?_) (fun _ => ?_)
    · have hk2 : k < ns.length := by
        have := of_decide_eq_true hc
        omega
      refine ⟨_, rfl, _, rfl, a, _, _, .int ns[k], rfl, rfl, hS, atI_nat (by rw [List.getElem?_map, List.getElem?_eq_getElem hk2]; rfl), ?_⟩
      refine ⟨_, rfl, _, rfl, .inl ⟨_, rfl, _, _, rfl, rfl, ⟨by decide, by decide, by decide⟩, _, _, rfl, rfl, ⟨by decide, by decide +kernel⟩, _, _, rfl, rfl, (show (((10 : Int) ^ Int.toNat 61) ^ Int.toNat 11) ≠ 0 by decide +kernel), ?_⟩⟩
      refine ⟨_, rfl, .inl ⟨_, rfl, _, _, rfl, rfl, (show (2147483179 : Int) ≠ 0 by decide), _, _, rfl, rfl, .inr ⟨by decide, by decide⟩, _, rfl, _, _, rfl, rfl, .inl ⟨by decide, by decide⟩, _, _, rfl, rfl, _, rfl, _, _, rfl, rfl,
        .inr ⟨_, rfl, _, _, rfl, rfl, .inl ⟨by decide, by decide⟩, _, _, rfl, rfl, _, _, rfl, rfl, ?_⟩⟩⟩
      refine ⟨_, rfl, _, _, rfl, rfl, ⟨by decide, by decide, by decide⟩, _, _, rfl, rfl, _, _, rfl, _, rfl, .inl ⟨_, rfl, _, _, rfl, rfl, (show (2305843009213693907 : Int) ≠ 0 by decide), by show 3 ≤ sizeLine; decide, fun p hp => ?_⟩⟩
      exact q p _ hp (same_upd hp) ⟨_, _, _, upd_same⟩
    · refine ⟨_, rfl, _, _, rfl, rfl, .inl ⟨by decide, by decide⟩, _, _, rfl, rfl, ?_⟩
      refine ⟨_, rfl, _, rfl, .inl ⟨_, rfl, _, _, rfl, rfl, ⟨by decide, by decide, by decide⟩, _, _, rfl, rfl, ⟨by decide, by decide +kernel⟩, _, _, rfl, rfl, (show (((10 : Int) ^ Int.toNat 61) ^ Int.toNat 11) ≠ 0 by decide +kernel), ?_⟩⟩
      refine ⟨_, rfl, .inl ⟨_, rfl, _, _, rfl, rfl, (show (2147483179 : Int) ≠ 0 by decide), _, _, rfl, rfl, .inr ⟨by decide, by decide⟩, _, rfl, _, _, rfl, rfl, .inl ⟨by decide, by decide⟩, _, _, rfl, rfl, _, rfl, _, _, rfl, rfl,
        .inr ⟨_, rfl, _, _, rfl, rfl, .inl ⟨by decide, by decide⟩, _, _, rfl, rfl, _, _, rfl, rfl, ?_⟩⟩⟩
      refine ⟨_, rfl, _, _, rfl, rfl, ⟨by decide, by decide, by decide⟩, _, _, rfl, rfl, _, _, rfl, _, rfl, .inl ⟨_, rfl, _, _, rfl, rfl, (show (2305843009213693907 : Int) ≠ 0 by decide), by show 3 ≤ sizeLine; decide, fun p hp => ?_⟩⟩
      exact q p _ hp (same_upd hp) ⟨_, _, _, upd_same⟩

def spBit : Sp := fun vs H Q _ => ∃ (c : Addr) (m : Int), vs = [.ref c, .int m] ∧ Cup H c ∧ 0 < m ∧ m.natAbs < 2 ^ 9000 ∧ ∀ r H', 0 ≤ r → r < m → Cup H' c → But c H H' → Q (.int r) H'
theorem scBit : FnScope ["_law_cup_here", "_law_much", "_law_found", "_law_first", "_law_later"] ["_law_cup_here", "_law_much"] (defScope sBit) := ⟨rfl, rfl, rfl, by decide +kernel, rfl, by decide +kernel, by decide +kernel⟩
theorem ok_bit {f : Addr} {fd : FuncData} (F : Fun K "_law_bit" "_law_bit" sBit f fd) (T : Txt K mg) : FnOk P w K mg base CX0 1 f fd ["_law_cup_here", "_law_much"] spBit := by
  refine F.ok scBit (fun vs H Q E h => ?_) (fun cdv A outer s H vs Q E hr h => ?_)
  · obtain ⟨c, m, rfl, _⟩ := h
    rfl
  · obtain ⟨c, m, rfl, ⟨a0, a1, a2, hc⟩, hm, hm2, q⟩ := h
    refine ⟨_, pss_cons (ps_if (pt_cmpR op_gt (pe_ix ix_list (pv 0) pe_int (fun _ _ => rfl)) pe_int (nomark _))
        (pss_cons (ps_set (i := 2) scBit.nd rfl (Or.inl rfl) (pe_op op_modN (pe_callTy call_int1 (by rfl) T.int (by decide +kernel) (pa_cons (pe_ix ix_list (pv 0) pe_int (fun _ _ => rfl)) pa_nil)) (pv 1)))
        (pss_cons (ps_asg (pe_op op_fdivW (pe_ix ix_list (pv 0) pe_int (fun _ _ => rfl)) (pv 1)) (pg_sub (pv 0) pe_int set_list))
        (pss_one (ps_ret (pv 2))))) pss_nil)
      (pss_cons (ps_asg (pe_op op_add (pe_ix ix_list (pv 0) pe_int (fun _ _ => rfl)) pe_int) (pg_sub (pv 0) pe_int set_list))
      (pss_cons (ps_set (i := 3) scBit.nd rfl (Or.inl rfl) (pe_op op_modN (pe_callTy call_int1 (by rfl) T.int (by decide +kernel) (pa_cons (pe_op op_add (pe_ix ix_list (pv 0) pe_int (fun _ _ => rfl))
          (pe_op op_mul pe_int (pe_ix ix_list (pv 0) pe_int (fun _ _ => rfl)))) pa_nil)) pe_int))
      (pss_cons (ps_set (i := 4) scBit.nd rfl (Or.inl rfl) (pe_op op_add (pe_op op_mul (pe_op op_modN (pe_callTy call_int1 (by rfl) T.int (by decide +kernel) (pa_cons (pe_op op_mul (pv 3) (pv 3)) pa_nil)) pe_int) (pv 3))
          (pe_op op_mul pe_int (pe_ix ix_list (pv 0) pe_int (fun _ _ => rfl)))))
      (pss_one (ps_ret (pe_op op_modN (pe_callTy call_int1 (by rfl) T.int (by decide +kernel) (pa_cons (pe_op op_fdivN (pe_op op_modN (pe_callTy call_int1 (by rfl) T.int (by decide +kernel) (pa_cons (pv 4) pa_nil)) pe_int) pe_int) pa_nil)) (pv 1))))))), ?_⟩
    have at0 : ∀ {x y z : V}, atI [x, y, z] (0 : Int) = some x := rfl
    have at1 : ∀ {x y z : V}, atI [x, y, z] (1 : Int) = some y := rfl
    have at2 : ∀ {x y z : V}, atI [x, y, z] (2 : Int) = some z := rfl
    have rest : ∀ i : Int, 0 ≤ i.fmod m ∧ i.fmod m < m := fun i => by
      rw [Int.fmod_eq_emod_of_nonneg i (Int.le_of_lt hm)]
      exact ⟨Int.emod_nonneg i (Int.ne_of_gt hm), Int.emod_lt_of_pos i hm⟩
    refine ⟨_, rfl, c, _, _, _, rfl, rfl, SqL.of hc, at0, _, _, rfl, rfl, _, rfl, ?_⟩
    refine ite2 (fun _ => ?_) (fun _ => ?_)
    · refine ⟨_, rfl, c, _, _, _, rfl, rfl, SqL.of hc, at0, .inl ⟨_, rfl, _, rfl, _, _, rfl, rfl, (Int.ne_of_gt hm), ?_⟩⟩
      refine ⟨_, rfl, c, _, _, _, rfl, rfl, SqL.of hc, at0, _, rfl, _, _, rfl, rfl, wide_div hm hm2 (by decide) (by decide), ?_⟩
      refine ⟨_, rfl, c, _, _, 0, rfl, rfl, hc, rfl, ?_⟩
      exact ⟨_, rfl, q _ _ (rest _).1 (rest _).2 ⟨_, _, _, upd_same⟩ But.put⟩
    · refine ⟨_, rfl, c, _, _, _, rfl, rfl, SqL.of hc, at2, _, _, rfl, rfl, _, rfl, c, _, _, 2, rfl, rfl, hc, rfl, ?_⟩
      have hc2 : (upd H c (.lst ([.int a0, .int a1, .int a2].set 2 (.int (a2 + 1))))) c = some (.lst [.int a0, .int a1, .int (a2 + 1)]) := upd_same
      refine ⟨_, rfl, c, _, _, _, rfl, rfl, SqL.of hc2, at1, _, rfl, c, _, _, _, rfl, rfl, SqL.of hc2, at2, _, _, rfl, rfl, .inl ⟨by decide, by decide⟩, _, _, rfl, rfl, .inl ⟨_, rfl, _, _, rfl, rfl, (show (2305843009213693951 : Int) ≠ 0 by decide), ?_⟩⟩
      have f1 := Int.emod_nonneg (a1 + 1000541 * (a2 + 1)) (b := 2305843009213693951) (by decide)
      have f2 := Int.emod_lt_of_pos (a1 + 1000541 * (a2 + 1)) (b := 2305843009213693951) (by decide)
      rw [← Int.fmod_eq_emod_of_nonneg (a1 + 1000541 * (a2 + 1)) (b := 2305843009213693951) (by decide)] at f1 f2
      have f3 : -(2 ^ 64 : Int) < Int.fmod (a1 + 1000541 * (a2 + 1)) 2305843009213693951 ∧ Int.fmod (a1 + 1000541 * (a2 + 1)) 2305843009213693951 < 2 ^ 64 :=
        ⟨Int.lt_of_lt_of_le (by decide) f1, Int.lt_trans f2 (by decide)⟩
      refine ⟨_, rfl, _, rfl, _, _, rfl, rfl, .inl f3, .inl ⟨_, rfl, _, _, rfl, rfl, (show (2305843009213693921 : Int) ≠ 0 by decide), _, rfl, _, _, rfl, rfl, .inr f3, _, rfl, c, _, _, _, rfl, rfl, SqL.of hc2, at2,
        _, _, rfl, rfl, .inl ⟨by decide, by decide⟩, _, _, rfl, rfl, ?_⟩⟩
      refine ⟨_, rfl, .inl ⟨_, rfl, _, _, rfl, rfl, (show (2305843009213693907 : Int) ≠ 0 by decide), _, _, rfl, rfl, (show (16384 : Int) ≠ 0 ∧ (16384 : Int).natAbs < 1073741824 by decide), .inl ⟨_, rfl, _, rfl, _, _, rfl, rfl, (Int.ne_of_gt hm), ?_⟩⟩⟩
      exact q _ _ (rest _).1 (rest _).2 ⟨_, _, _, hc2⟩ But.put
end
theorem Cup.same {H H' : Hp} {c : Addr} (s : Same H H') (h : Cup H c) : Cup H' c := let ⟨a, b, d, e⟩ := h; ⟨a, b, d, s _ _ e⟩
theorem Cup.ne {H : Hp} {c p : Addr} (h : Cup H c) (n : H p = none) : p ≠ c := by
  obtain ⟨a, b, d, e⟩ := h
  exact (ne_of_none e n).symm
end K42

set_option Elab.async false
set_option linter.all false
set_option maxRecDepth 100000
set_option maxHeartbeats 3200000
namespace K42
open PySem L2 Tx Tg Tm Sr
/-! ### turns on the heap -/
theorem sqt_same {K : PySem.W.Frag} {H H' : Hp} {a : Addr} {xs : List V} (s : Same H H') (h : SqT K H a xs) : SqT K H' a xs := by
  rcases h with h | h
  · rcases h with h | ⟨o, h⟩
    · exact .inl (.inl (s _ _ h))
    · exact .inl (.inr ⟨o, s _ _ h⟩)
  · exact .inr h
theorem nats_at {l : List Nat} {i : Nat} (h : i < l.length) : (nats l)[i]? = some (.int (l[i] : Int)) := by
  rw [List.getElem?_map, List.getElem?_eq_getElem h]
  rfl
theorem nats_to {l : List Nat} {p : Nat} (h : p < l.length) : atI (nats l) (p : Int) = some (.int (Pm.to l p : Int)) := by
  rw [Pm.to_get h]
  exact atI_nat (nats_at h)
theorem same_put {H H' : Hp} {D : Addr} {o : HO} (s : Same H H') (n : H D = none) : Same H (upd H' D o) := fun b u e => by
  rw [upd_ne (ne_of_none e n)]
  exact s b u e
section
variable {P : Program} {w : World} {K : PySem.W.Frag} {mg : Str → Option Value} {base : Heap}
def spJ2 (K : PySem.W.Frag) : Sp := fun vs H Q _ => ∃ (a b : Addr) (t u : List Nat), vs = [.ref a, .ref b] ∧ SqT K H a (nats t) ∧ SqT K H b (nats u) ∧ t.length ≤ 100 ∧ (∀ p ∈ t, p < u.length) ∧ ∀ p H', Same H H' → Tup H' p (Pm.joint t u) → Q (.ref p) H'
theorem scJoint : FnScope ["one", "other", "point"] ["one", "other"] (defScope sJoint) := ⟨rfl, rfl, rfl, by decide +kernel, rfl, by decide +kernel, by decide +kernel⟩
/-- what both comprehensions do -/
theorem lc_joint {H : Hp} {a b D : Addr} {t u : List Nat} (ha : SqT K H a (nats t)) (hb : SqT K H b (nats u)) (hl : t.length ≤ 100) (hlt : ∀ p ∈ t, p < u.length) (hD : H D = none) {Qd : Hp → Prop}
    (q : ∀ H', Same H H' → H' D = some (.lst (nats (Pm.joint t u))) → Qd H') :
    ∃ W : Nat → Nat → Hp → Prop, (∃ m, W 0 m (upd H D (.lst []))) ∧ ∀ i m H, W i m H →
      ((Itt K a).stop i H ∧ Qd H) ∨ ((Itt K a).go i H ∧ ∃ Nx : Hp → Prop, (∀ H', Nx H' → ∃ m', m' < m ∧ W (i + 1) m' H') ∧ ∀ x H', (Itt K a).yld i H x H' → gName 2 x (wipe [some (.ref a), some (.ref b), none] [2]) H' fun σ2 H2 => wipe σ2 [2] = wipe [some (.ref a), some (.ref b), none] [2] ∧ tYes σ2 H2 fun b H3 =>
        if b = true then (tOp (rIxT K) (tVar 1) (tVar 2)) σ2 H3 fun y H4 => ∃ acc, H4 D = some (.lst acc) ∧ acc.length < sizeLine ∧ Nx (upd H4 D (.lst (acc ++ [y]))) else Nx H3) := by
  refine lc_tup (xs := nats t) (fun i H3 => Same H H3 ∧ H3 D = some (.lst (nats (Pm.joint (t.take i) u)))) ⟨same_upd hD, upd_same⟩ (fun i H2 _ z => sqt_same z.1 ha) ?_ ?_
  · rintro i x H2 hx ⟨s2, e2⟩
    have hi := (List.getElem?_eq_some_iff.mp hx).1
    have hi' : i < t.length := by rw [List.length_map] at hi; exact hi
    rw [nats_at hi'] at hx
    cases hx
    have hp := hlt t[i] (List.getElem_mem hi')
    refine ⟨rfl, iteT (B := False) ?_⟩
    refine ⟨_, rfl, _, rfl, b, nats u, (t[i] : Int), .int (Pm.to u t[i] : Int), rfl, rfl, sqt_same s2 hb, nats_to hp, ?_⟩
    refine ⟨_, e2, ?_, same_put s2 hD, ?_⟩
    · rw [List.length_map, Pm.joint_len, List.length_take]
      exact Nat.lt_of_le_of_lt (show _ ≤ 100 by omega) (by decide)
    · rw [upd_same, List.take_add_one, List.getElem?_eq_getElem hi']
      show some (HO.lst (nats (Pm.joint (t.take i) u) ++ [V.int (Pm.to u t[i] : Int)])) = some (HO.lst (nats ((t.take i ++ [t[i]]).map (Pm.to u))))
      rw [List.map_append]
      show _ = some (HO.lst (List.map _ (_ ++ _)))
      rw [List.map_append]
      rfl
  · rintro H2 ⟨s2, e2⟩
    rw [List.take_of_length_le (by rw [List.length_map]; exact Nat.le_refl _)] at e2
    exact q H2 s2 e2
theorem ok_joint {f : Addr} {fd : FuncData} (F : Fun K "joint_of" "joint_of" sJoint f fd) (T : Txt K mg) : FnOk P w K mg base CX0 1 f fd ["one", "other"] (spJ2 K) := by
  refine F.ok scJoint (fun vs H Q E h => ?_) (fun cdv A outer s H vs Q E hr h => ?_)
  · obtain ⟨a, b, t, u, rfl, _⟩ := h
    rfl
  · obtain ⟨a, b, t, u, rfl, ha, hb, hl, hlt, q⟩ := h
    refine ⟨_, pss_one (ps_ret (pe_callTy call_tuple_of (by rfl) T.tuple (by decide +kernel) (pa_cons (pe_lc (own := [("point", 2)]) (g := gName 2) (tt := tYes) (te := tOp (rIxT K) (tVar 1) (tVar 2)) rfl scJoint.nd (pi_tup (pv 0))
      (blkOk_by (own := [("point", 2)]) (N := ["one", "other", "point"]) (sc := defScope sJoint) (by decide +kernel))
      (fun _ _ _ _ _ => pg_name (i := 2) scJoint.nd rfl (Or.inl rfl)) (fun _ _ _ _ _ => pts_nil)
      (fun _ _ _ _ _ => pe_ix ix_tup (pv 1) (pv 2) (fun _ _ => rfl))) pa_nil))), ?_⟩
    refine ⟨_, rfl, a, rfl, ⟨_, ha⟩, fun D hD => ?_⟩
    refine lc_joint ha hb hl hlt hD fun H2 s2 e2 => ?_
    refine ⟨D, _, rfl, .inl ⟨SqL.of e2, fun pl npl => ?_⟩⟩
    exact q pl _ (s2.trans (same_upd npl)) upd_same
theorem scLedOn : FnScope ["_law_turn", "_law_other", "_law_spot"] ["_law_turn", "_law_other"] (defScope sLedOn) := ⟨rfl, rfl, rfl, by decide +kernel, rfl, by decide +kernel, by decide +kernel⟩
theorem ok_ledon {f : Addr} {fd : FuncData} (F : Fun K "_law_led_on" "_law_led_on" sLedOn f fd) (T : Txt K mg) : FnOk P w K mg base CX0 1 f fd ["_law_turn", "_law_other"] (spJ2 K) := by
  refine F.ok scLedOn (fun vs H Q E h => ?_) (fun cdv A outer s H vs Q E hr h => ?_)
  · obtain ⟨a, b, t, u, rfl, _⟩ := h
    rfl
  · obtain ⟨a, b, t, u, rfl, ha, hb, hl, hlt, q⟩ := h
    refine ⟨_, pss_one (ps_ret (pe_callTy call_tuple_of (by rfl) T.tuple (by decide +kernel) (pa_cons (pe_lc (own := [("_law_spot", 2)]) (g := gName 2) (tt := tYes) (te := tOp (rIxT K) (tVar 1) (tVar 2)) rfl scLedOn.nd (pi_tup (pv 0))
      (blkOk_by (own := [("_law_spot", 2)]) (N := ["_law_turn", "_law_other", "_law_spot"]) (sc := defScope sLedOn) (by decide +kernel))
      (fun _ _ _ _ _ => pg_name (i := 2) scLedOn.nd rfl (Or.inl rfl)) (fun _ _ _ _ _ => pts_nil)
      (fun _ _ _ _ _ => pe_ix ix_tup (pv 1) (pv 2) (fun _ _ => rfl))) pa_nil))), ?_⟩
    refine ⟨_, rfl, a, rfl, ⟨_, ha⟩, fun D hD => ?_⟩
    refine lc_joint ha hb hl hlt hD fun H2 s2 e2 => ?_
    refine ⟨D, _, rfl, .inl ⟨SqL.of e2, fun pl npl => ?_⟩⟩
    exact q pl _ (s2.trans (same_upd npl)) upd_same
/-! ### undone -/
theorem dc_enumT {K : PySem.W.Frag} {a : Addr} {xs : List V} {g : TG} {tt : TT} {tk tv : TE} {vs : List Nat} {σ : L2.St} {H1 : Hp} {D : Addr} {Qd : Hp → Prop} (Pv : Nat → Hp → Prop) (h0 : Pv 0 (upd H1 D (.dK []))) (hl : ∀ i H, i ≤ xs.length → Pv i H → SqT K H a xs)
    (hs : ∀ i x H T, xs[i]? = some x → H T = none → Pv i H → g (.ref T) (wipe σ vs) (upd H T (.tup [.int (i : Nat), x])) fun σ2 H2 => wipe σ2 vs = wipe σ vs ∧ tt σ2 H2 fun b H3 =>
      if b = true then tk σ2 H3 fun y H4 => tv σ2 H4 fun z H5 => ∃ kvs k, y = kV k ∧ H5 D = some (.dK kvs) ∧ kvs.length < sizeLine ∧ Pv (i + 1) (upd H5 D (.dK (putK kvs k z))) else Pv (i + 1) H3) (hd : ∀ H, Pv xs.length H → Qd H) :
    ∃ W : Nat → Nat → Hp → Prop, (∃ m, W 0 m (upd H1 D (.dK []))) ∧ ∀ i m H, W i m H →
      ((Ur.IteT K a).stop i H ∧ Qd H) ∨ ((Ur.IteT K a).go i H ∧ ∃ Nx : Hp → Prop, (∀ H', Nx H' → ∃ m', m' < m ∧ W (i + 1) m' H') ∧ ∀ x H', (Ur.IteT K a).yld i H x H' → g x (wipe σ vs) H' fun σ2 H2 => wipe σ2 vs = wipe σ vs ∧ tt σ2 H2 fun b H3 =>
        if b = true then tk σ2 H3 fun y H4 => tv σ2 H4 fun z H5 => ∃ kvs k, y = kV k ∧ H5 D = some (.dK kvs) ∧ kvs.length < sizeLine ∧ Nx (upd H5 D (.dK (putK kvs k z))) else Nx H3) := by
  refine ⟨fun i m H => m = xs.length - i ∧ i ≤ xs.length ∧ Pv i H, ⟨xs.length, by simp, Nat.zero_le _, h0⟩, ?_⟩
  rintro i m H ⟨rfl, hi, p⟩
  have q := hl i H hi p
  by_cases hlt : i < xs.length
  · refine .inr ⟨⟨xs, xs[i], q, by simp [hlt]⟩, Pv (i + 1), fun H' p' => ⟨xs.length - (i + 1), by omega, rfl, hlt, p'⟩, fun x H' y => ?_⟩
    obtain ⟨T, z, rfl, hT, rfl, hz⟩ := y
    exact hs i z _ T (hz xs q) hT p
  · have e : i = xs.length := by omega
    subst e
    exact .inl ⟨⟨xs, q, rfl⟩, hd H p⟩
def spJ1 (K : PySem.W.Frag) : Sp := fun vs H Q _ => ∃ (a : Addr) (t : List Nat) (n : Nat), vs = [.ref a] ∧ SqT K H a (nats t) ∧ Pm.Turn n t ∧ n ≤ 60 ∧ ∀ p H', Same H H' → Tup H' p (Pm.undone t) → Q (.ref p) H'
theorem scUndoneOf : FnScope ["turn", "point", "led", "back"] ["turn"] (defScope sUndoneOf) := ⟨rfl, rfl, rfl, by decide +kernel, rfl, by decide +kernel, by decide +kernel⟩
theorem ok_undoneof {f : Addr} {fd : FuncData} (F : Fun K "undone_of" "undone_of" sUndoneOf f fd) (T : Txt K mg) : FnOk P w K mg base CX0 1 f fd ["turn"] (spJ1 K) := by
  refine F.ok scUndoneOf (fun vs H Q E h => ?_) (fun cdv A outer s H vs Q E hr h => ?_)
  · obtain ⟨a, t, n, rfl, _⟩ := h
    rfl
  · obtain ⟨a, t, n, rfl, ha, ht, hn, q⟩ := h
    have hu := hu_of hr
    refine ⟨_, pss_cons (ps_asg (pe_dc (own := [("point", 1), ("led", 2)]) (g := gTup K 2 (gCons (gName 1) (gCons (gName 2) gNil))) (tt := tYes) (tk := tVar 2) (tv := tVar 1) rfl scUndoneOf.nd (Ur.pi_enumT (by rfl) T.enum (pa_cons (pv 0) pa_nil))
        (blkOk_by (own := [("point", 1), ("led", 2)]) (N := ["turn", "point", "led", "back"]) (sc := defScope sUndoneOf) (by decide +kernel))
        (fun _ _ _ _ _ => pg_tup rfl (pgs_cons (pg_name (i := 1) scUndoneOf.nd rfl (Or.inl rfl)) (pgs_cons (pg_name (i := 2) scUndoneOf.nd rfl (Or.inl rfl)) pgs_nil))) (fun _ _ _ _ _ => pts_nil)
        (fun _ _ _ _ _ => pv 2) (fun _ _ _ _ _ => pv 1)) (pg_name (i := 3) scUndoneOf.nd rfl (Or.inr rfl)))
      (pss_one (ps_ret (pe_callTy call_tuple_of (by rfl) T.tuple (by decide +kernel) (pa_cons (pe_lc (own := [("point", 1)]) (g := gName 1) (tt := tYes) rfl scUndoneOf.nd (pi_range1 rfl T.range (pa_cons (pe_callB call_len_seq (by rfl) T.len PySem.boot_len (pa_cons (pv 0) pa_nil)) pa_nil))
        (blkOk_by (own := [("point", 1)]) (N := ["turn", "point", "led", "back"]) (sc := defScope sUndoneOf) (by decide +kernel))
        (fun _ _ _ _ _ => pg_name (i := 1) scUndoneOf.nd rfl (Or.inl rfl)) (fun _ _ _ _ _ => pts_nil)
        (fun _ _ _ _ _ => pe_dget hu (pv 3) (pv 1) (fun _ _ => rfl))) pa_nil)))), ?_⟩
    have hlen := ht.len
    refine ⟨_, rfl, a, nats t, rfl, ha, fun D hD => ?_⟩
    refine dc_enumT (xs := nats t) (fun i H2 => Same H H2 ∧ ∃ kvs : List (Key × V), H2 D = some (.dK kvs) ∧ kvs.length ≤ i ∧ ∀ (j : Nat) (hj2 : j < t.length), j < i → valV kvs (Sum.inl (t[j] : Int)) = some (.int (j : Int)))
      ⟨same_upd hD, [], upd_same, Nat.le_refl 0, fun j _ hj => absurd hj (Nat.not_lt_zero j)⟩ (fun i H2 _ z => sqt_same z.1 ha) ?_ ?_
    · rintro i x H2 T hx nT ⟨s2, kvs, e2, hk, hv⟩
      have hi := (List.getElem?_eq_some_iff.mp hx).1
      have hi' : i < t.length := by rw [List.length_map] at hi; exact hi
      rw [nats_at hi'] at hx
      cases hx
      have sT := same_upd (o := .tup [.int (i : Nat), .int (t[i] : Int)]) nT
      refine ⟨T, _, rfl, SqT.of upd_same, rfl, _, _, rfl, _, _, rfl, rfl, rfl, iteT (B := False) ?_⟩
      refine ⟨_, rfl, _, rfl, kvs, Sum.inl (t[i] : Int), rfl, sT _ _ e2, ?_, same_put (s2.trans sT) hD, _, upd_same, ?_, ?_⟩
      · exact Nat.lt_of_le_of_lt (show _ ≤ 60 by omega) (by decide)
      · have := length_putK kvs (Sum.inl (t[i] : Int)) (V.int (i : Int))
        omega
      · intro j hj2 hj
        rw [valV_put]
        by_cases hji : j = i
        · subst hji
          rw [if_pos rfl]
        · rw [if_neg fun e => hji (Pm.nodup_inj ht.nodup hj2 hi' (by injection e with e; omega))]
          exact hv j hj2 (by omega)
    · rintro H2 ⟨s2, kvs, e2, hk, hv⟩
      refine ⟨_, rfl, a, nats t, rfl, .inr (sqt_same s2 ha), ?_⟩
      have hnl : (nats t).length = t.length := List.length_map ..
      refine ⟨_, rfl, by omega, by omega, fun D2 hD2 => ?_⟩
      have en : ((nats t).length : Int).toNat = t.length := by omega
      rw [en]
      refine lc_range (lo := 0) (n := t.length) (fun i H3 => Same H2 H3 ∧ H3 D2 = some (.lst (nats ((Pm.undone t).take i)))) ⟨same_upd hD2, upd_same⟩ ?_ ?_
      · rintro i H3 hi ⟨s3, e3⟩
        have hin : i < n := by omega
        have hx : t.idxOf i < t.length := List.idxOf_lt_length_of_mem (ht.mem.mpr hin)
        have et : t[t.idxOf i] = i := List.getElem_idxOf _
        have hv2 := hv (t.idxOf i) hx (by rw [hnl]; exact hx)
        rw [et] at hv2
        have hg := DGet.k (k := (Sum.inl (i : Int) : Key)) (s3 _ _ e2)
        rw [hv2] at hg
        rw [Int.zero_add]
        refine ⟨rfl, iteT (B := False) ?_⟩
        refine ⟨_, rfl, _, rfl, D, _, rfl, hg, ?_⟩
        refine ⟨_, e3, ?_, same_put s3 hD2, ?_⟩
        · rw [List.length_map, List.length_take, Pm.undone_len]
          exact Nat.lt_of_le_of_lt (show _ ≤ 60 by omega) (by decide)
        · have hul : i < (Pm.undone t).length := by rw [Pm.undone_len]; exact hi
          have eu : (Pm.undone t)[i] = t.idxOf i := by
            have := Pm.to_undone ht hin
            rw [Pm.to_get hul] at this
            exact this
          rw [upd_same, List.take_add_one, List.getElem?_eq_getElem hul, eu]
          show _ = some (HO.lst (List.map _ (_ ++ _)))
          rw [List.map_append]
          rfl
      · rintro H3 ⟨s3, e3⟩
        rw [List.take_of_length_le (by rw [Pm.undone_len]; exact Nat.le_refl _)] at e3
        refine ⟨D2, _, rfl, .inl ⟨SqL.of e3, fun pl npl => ?_⟩⟩
        exact q pl _ ((s2.trans s3).trans (same_upd npl)) upd_same
end
end K42

set_option Elab.async false
set_option linter.all false
set_option maxRecDepth 100000
set_option maxHeartbeats 3200000
namespace K42
open PySem L2 Tx Tg Tm Sr
abbrev nCyc : List Str := ["turn", "cycles", "seen", "start", "cycle", "point"]
/-- the dict of the points seen -/
def Seen (kvs : List (Key × V)) (S : List Nat) : Prop := (∀ p : Nat, (valV kvs (Sum.inl (p : Int))).isSome = decide (p ∈ S)) ∧ kvs.length ≤ S.length
theorem Seen.put {kvs : List (Key × V)} {S : List Nat} (h : Seen kvs S) (p : Nat) (v : V) : Seen (putK kvs (Sum.inl (p : Int)) v) (S ++ [p]) := by
  refine ⟨fun q => ?_, ?_⟩
  · rw [valV_put]
    by_cases e : q = p
    · subst e
      rw [if_pos rfl]
      simp
    · rw [if_neg fun z => e (by injection z with z; omega), h.1 q]
      simp [e]
  · have := length_putK kvs (Sum.inl (p : Int)) v
    have h2 := h.2
    rw [List.length_append, List.length_singleton]
    omega
/-- lists of points, so many in each -/
def LensAt (H : Hp) (cs : List Addr) (M : List Nat) : Prop := PySem.W.EachIs (fun c m => ∃ L : List Nat, H c = some (.lst (nats L)) ∧ L.length = m) cs M
theorem LensAt.mono {H H' : Hp} {cs : List Addr} {M : List Nat} (h : LensAt H cs M) (k : ∀ c ∈ cs, ∀ xs, H c = some (.lst xs) → H' c = some (.lst xs)) : LensAt H' cs M := by
  unfold LensAt at *
  induction h with
  | nil => exact .nil
  | cons r t ih =>
    obtain ⟨L, e, hl⟩ := r
    exact .cons ⟨L, k _ List.mem_cons_self _ e, hl⟩ (ih fun c hc => k c (List.mem_cons_of_mem _ hc))
theorem each_snoc {α β : Type} {R : α → β → Prop} : ∀ {as : List α} {bs : List β} {a : α} {b : β}, PySem.W.EachIs R as bs → R a b → PySem.W.EachIs R (as ++ [a]) (bs ++ [b])
  | _, _, _, _, .nil, r => .cons r .nil
  | _, _, _, _, .cons r t, q => .cons r (each_snoc t q)
theorem free_none {H H' : Hp} {p : Addr} (s : Same H H') (n : H' p = none) : H p = none := by
  cases hh : H p with
  | none => rfl
  | some o =>
    have := s _ _ hh
    rw [n] at this
    cases this
section
variable {P : Program} {w : World} {K : PySem.W.Frag} {mg : Str → Option Value} {base : Heap}
def spCyc (K : PySem.W.Frag) : Sp := fun vs H Q _ => ∃ (a : Addr) (t : List Nat) (n : Nat), vs = [.ref a] ∧ SqT K H a (nats t) ∧ Pm.Turn n t ∧ n ≤ 60 ∧ ∀ p H' cs M, Same H H' → H' p = some (.lst (cs.map V.ref)) → LensAt H' cs M → Pm.Lens n t M → Q (.ref p) H'
theorem scCyc : FnScope nCyc ["turn"] (defScope sCycles) := ⟨rfl, rfl, rfl, by decide +kernel, rfl, by decide +kernel, by decide +kernel⟩
theorem ok_cycles {f : Addr} {fd : FuncData} (F : Fun K "cycles_of" "cycles_of" sCycles f fd) (T : Txt K mg) : FnOk P w K mg base CX0 1 f fd ["turn"] (spCyc K) := by
  refine F.ok scCyc (fun vs H Q E h => ?_) (fun cdv A outer s H vs Q E hr h => ?_)
  · obtain ⟨a, t, n, rfl, _⟩ := h
    rfl
  · obtain ⟨a, t, n, rfl, ha, ht, hn, q⟩ := h
    have hu := hu_of hr
    refine ⟨_, pss_cons (ps_set (i := 1) scCyc.nd rfl (Or.inl rfl) (pe_lst pa_nil))
      (pss_cons (ps_set (i := 2) scCyc.nd rfl (Or.inl rfl) pe_dnewK)
      (pss_cons (ps_for PassesOwn.never rfl (pi_range1 rfl T.range (pa_cons (pe_callB call_len_seq (by rfl) T.len PySem.boot_len (pa_cons (pv 0) pa_nil)) pa_nil)) (pg_name (i := 3) scCyc.nd rfl (Or.inl rfl))
        (pss_cons (ps_set (i := 4) scCyc.nd rfl (Or.inl rfl) (pe_lst pa_nil))
        (pss_cons (ps_set (i := 5) scCyc.nd rfl (Or.inl rfl) (pv 3))
        (pss_cons (ps_while PassesOwn.never (pt_cmp (pc_dnotin hu (pv 5) (pv 2)))
          (pss_cons (ps_dput hu (pv 2) (pv 5) pe_bl rfl)
          (pss_cons (ps_expr (pe_bm PySem.F.plainAttrs_list PySem.F.slot_list_append PySem.F.type_list_append mt_append (pv 4) (pa_cons (pv 5) pa_nil)))
          (pss_one (ps_set (i := 5) scCyc.nd rfl (Or.inl rfl) (pe_ix ix_tup (pv 0) (pv 5) (fun _ _ => rfl)))))))
        (pss_one (ps_if (pt_truth (pv 4) (by intro _; rfl)) (pss_one (ps_expr (pe_bm PySem.F.plainAttrs_list PySem.F.slot_list_append PySem.F.type_list_append mt_append (pv 1) (pa_cons (pv 4) pa_nil)))) pss_nil))))))
      (pss_one (ps_ret (pv 1))))), ?_⟩
    have hlen := ht.len
    have hnl : (nats t).length = t.length := List.length_map ..
    refine ⟨by decide, fun pc npc => fun pd npd => ?_⟩
    have s0 := same_upd (o := .lst []) npc
    have s00 := s0.trans (same_upd (o := .dK []) npd)
    have ncd : pc ≠ pd := fun e => by rw [e, ← e] at npd; rw [upd_same] at npd; cases npd
    have npd0 : H pd = none := by
      have := npd
      rw [upd_ne ncd.symm] at this
      exact this
    have e1 : (upd (upd H pc (.lst [])) pd (.dK [])) pc = some (.lst []) := by rw [upd_ne ncd, upd_same]
    have e2 : (upd (upd H pc (.lst [])) pd (.dK [])) pd = some (.dK []) := upd_same
    generalize upd (upd H pc (.lst [])) pd (.dK []) = H0 at s00 e1 e2 ⊢
    refine ⟨_, rfl, a, nats t, rfl, .inr (sqt_same s00 ha), ?_⟩
    refine ⟨_, rfl, by omega, by omega, ?_⟩
    have en : ((nats t).length : Int).toNat = n := by omega
    rw [en]
    refine for_range (n := n) (fun i σ H1 => ∃ (t3 t4 t5 : Option V) (cs : List Addr) (M S : List Nat) (kvs : List (Key × V)), σ = [some (.ref a), some (.ref pc), some (.ref pd), t3, t4, t5] ∧ Same H H1 ∧ H1 pc = some (.lst (cs.map V.ref)) ∧ H1 pd = some (.dK kvs) ∧ Seen kvs S ∧ LensAt H1 cs M ∧ (∀ c ∈ cs, c ≠ pc) ∧ Pm.Out n t i S M)
      ⟨none, none, none, [], [], [], [], rfl, s00, e1, e2, ⟨fun p => rfl, Nat.le_refl 0⟩, .nil, (fun c hc => by cases hc), Pm.out_zero⟩ ?_ ?_
    · rintro i σ H1 hi ⟨t3, t4, t5, cs, M, S, kvs, rfl, sH, ec, ed, hS, hM, hcs, hO⟩
      refine ⟨by decide, fun pk npk => ?_⟩
      have sk := same_upd (o := .lst []) npk
      have nkc : pk ≠ pc := (ne_of_none ec npk).symm
      have nkd : pk ≠ pd := (ne_of_none ed npk).symm
      refine ⟨_, rfl, ?_⟩
      rw [Int.zero_add]
      have hM1 := hM.mono (H' := upd H1 pk (.lst [])) fun c hc xs e => sk _ _ e
      have ncs : ∀ c ∈ cs, c ≠ pk := by
        intro c hc e
        subst e
        have : ∀ {cs : List Addr} {M : List Nat}, LensAt H1 cs M → ∀ c ∈ cs, ∃ xs, H1 c = some (.lst xs) := by
          intro cs M h
          unfold LensAt at h
          induction h with
          | nil => intro c hc; cases hc
          | cons r t ih =>
            intro c hc
            rcases List.mem_cons.mp hc with rfl | hc
            · obtain ⟨L, e, _⟩ := r
              exact ⟨_, e⟩
            · exact ih c hc
        obtain ⟨xs, e⟩ := this hM c hc
        rw [npk] at e
        cases e
      refine while_by (fun σ H2 => ∃ (j : Nat) (kvs : List (Key × V)), σ = [some (.ref a), some (.ref pc), some (.ref pd), some (.int (i : Int)), some (.ref pk), some (.int (Pm.it t j i : Int))] ∧ Same H H2 ∧ H2 pc = some (.lst (cs.map V.ref)) ∧ H2 pd = some (.dK kvs) ∧ Seen kvs (S ++ Pm.walk t i j) ∧ H2 pk = some (.lst (nats (Pm.walk t i j))) ∧ LensAt H2 cs M ∧ Pm.In S t i j)
        (fun σ H2 => match H2 pk with
          | some (.lst l) => n + 1 - l.length
          | _ => 0) ⟨0, kvs, rfl, sH.trans sk, sk _ _ ec, sk _ _ ed, by
            show Seen kvs (S ++ [])
            rw [List.append_nil]; exact hS, upd_same, hM1, Pm.in_zero S t i⟩ ?_ ?_
      · rintro σ H2 ⟨j, kvs2, rfl, s2, ec2, ed2, hS2, ek2, hM2, hI⟩
        have hpn := Pm.it_lt ht hi j
        refine ⟨_, rfl, _, rfl, pd, _, rfl, DGet.k (k := (Sum.inl (Pm.it t j i : Int) : Key)) ed2, _, rfl, ?_⟩
        rw [hS2.1]
        by_cases hin : Pm.it t j i ∈ S ++ Pm.walk t i j
        · rw [decide_eq_true hin]
          refine iteF ?_
          cases j with
          | zero =>
            refine ⟨_, rfl, false, .inl ⟨_, SqL.of ek2, rfl⟩, iteF ?_⟩
            have hS3 : Seen kvs2 (S ++ []) := hS2
            rw [List.append_nil] at hS3
            have hin2 : i ∈ S ++ [] := hin
            rw [List.append_nil] at hin2
            exact ⟨_, _, _, cs, M, S, kvs2, rfl, s2, ec2, ed2, hS3, hM2, hcs, Pm.out_same hO hin2⟩
          | succ j =>
            have hne : true = !((nats (Pm.walk t i (j + 1))).isEmpty) := by
              have : (nats (Pm.walk t i (j + 1))).length = j + 1 := by rw [List.length_map, Pm.walk_len]
              cases hx : nats (Pm.walk t i (j + 1)) with
              | nil => rw [hx] at this; cases this
              | cons _ _ => rfl
            refine ⟨_, rfl, true, .inl ⟨_, SqL.of ek2, hne⟩, iteT ?_⟩
            have hcl : cs.length = M.length := hM2.length
            have hml := hO.ln
            refine ⟨_, rfl, .inl ⟨rfl, _, SqL.of ec2⟩, _, rfl, pc, _, .ref pk, rfl, rfl, ec2, ?_, ?_⟩
            · rw [List.length_map]
              exact Nat.lt_of_le_of_lt (show _ ≤ 60 by omega) (by decide)
            · refine ⟨_, _, _, cs ++ [pk], M ++ [j + 1], S ++ Pm.walk t i (j + 1), kvs2, rfl, same_put s2 npc, ?_, ?_, hS2, ?_, ?_, Pm.out_succ ht hO hi hI hin⟩
              · rw [upd_same, List.map_append]
                rfl
              · rw [upd_ne ncd.symm]
                exact ed2
              · exact each_snoc (hM2.mono fun c hc xs e => by rw [upd_ne (hcs c hc)]; exact e) ⟨_, by rw [upd_ne nkc]; exact ek2, Pm.walk_len ..⟩
              · intro c hc
                rcases List.mem_append.mp hc with h' | h'
                · exact hcs c h'
                · rw [List.mem_singleton.mp h']
                  exact nkc
        · rw [decide_eq_false hin]
          refine iteT ?_
          have hjn := Pm.in_le ht hi hI
          have hsn := Pm.small_len hO.nd hO.lt
          have hkl := hS2.2
          rw [List.length_append, Pm.walk_len] at hkl
          refine ⟨_, rfl, _, rfl, pd, _, rfl, DPut.k (k := (Sum.inl (Pm.it t j i : Int) : Key)) ed2 (Nat.lt_of_le_of_lt (show _ ≤ 120 by omega) (by decide)), ?_⟩
          have ek3 : (upd H2 pd (.dK (putK kvs2 (Sum.inl (Pm.it t j i : Int) : Key) (.bl true)))) pk = some (.lst (nats (Pm.walk t i j))) := by
            rw [upd_ne nkd]
            exact ek2
          refine ⟨_, rfl, .inl ⟨rfl, _, SqL.of ek3⟩, _, rfl, pk, _, _, rfl, rfl, ek3, ?_, ?_⟩
          · rw [List.length_map, Pm.walk_len]
            exact Nat.lt_of_le_of_lt (show _ ≤ 60 by omega) (by decide)
          · have npk0 : H pk = none := free_none sH npk
            have sE := same_put (o := .lst (nats (Pm.walk t i j) ++ [.int (Pm.it t j i : Int)])) (same_put (o := .dK (putK kvs2 (Sum.inl (Pm.it t j i : Int) : Key) (.bl true))) s2 npd0) npk0
            refine ⟨_, rfl, _, rfl, a, nats t, _, .int (Pm.to t (Pm.it t j i) : Int), rfl, rfl, sqt_same sE ha, nats_to (by omega), ?_⟩
            refine ⟨⟨j + 1, putK kvs2 (Sum.inl (Pm.it t j i : Int) : Key) (.bl true), rfl, sE, ?_, ?_, ?_, ?_, ?_, Pm.in_succ hI hin⟩, ?_⟩
            · rw [upd_ne nkc.symm, upd_ne ncd]
              exact ec2
            · rw [upd_ne nkd.symm, upd_same]
            · have := hS2.put (Pm.it t j i) (.bl true)
              rw [List.append_assoc, ← Pm.walk_succ] at this
              exact this
            · rw [upd_same, Pm.walk_succ]
              show _ = some (HO.lst (List.map _ (_ ++ _)))
              rw [List.map_append]
              rfl
            · refine hM2.mono fun c hc xs e => ?_
              have hcd : c ≠ pd := fun z => by
                rw [z, ed2] at e
                cases e
              rw [upd_ne (ncs c hc), upd_ne hcd]
              exact e
            · show (match (upd (upd H2 pd _) pk (.lst (nats (Pm.walk t i j) ++ [.int (Pm.it t j i : Int)]))) pk with
                | some (.lst l) => n + 1 - l.length
                | _ => 0) < (match H2 pk with
                | some (.lst l) => n + 1 - l.length
                | _ => 0)
              rw [upd_same, ek2]
              show n + 1 - (nats (Pm.walk t i j) ++ [V.int (Pm.it t j i : Int)]).length < n + 1 - (nats (Pm.walk t i j)).length
              rw [List.length_append, List.length_map, Pm.walk_len, List.length_singleton]
              omega
      · rintro σ H Q Q' hQ ⟨v, e, v2, e2, a', o, ex, hg, c, ec, hq⟩
        exact ⟨v, e, v2, e2, a', o, ex, hg, c, ec, hQ _ _ hq⟩
    · rintro σ H1 ⟨t3, t4, t5, cs, M, S, kvs, rfl, sH, ec, ed, hS, hM, hcs, hO⟩
      exact ⟨_, rfl, q pc H1 cs M sH ec hM (Pm.out_end hO)⟩
end
end K42

set_option Elab.async false
set_option linter.all false
set_option maxRecDepth 100000
set_option maxHeartbeats 3200000
namespace K42
open PySem L2 Tx Tg Tm Sr
/-! ### numbers as data -/
theorem nats_all (K : PySem.W.Frag) (H : Hp) : ∀ l : List Nat, DpAll K H (nats l) (natsD l)
  | [] => .nil
  | p :: l => .cons (.int _) (nats_all K H l)
theorem lay_nats : ∀ l : List Nat, PyData.canLayAll0 (natsD l) = true
  | [] => rfl
  | p :: l => by
    show (true && PyData.canLayAll0 (natsD l)) = true
    rw [lay_nats l]
    rfl
theorem deep_nats : ∀ l : List Nat, PyData.depthAll (natsD l) = 0
  | [] => rfl
  | p :: l => by
    show max 0 (PyData.depthAll (natsD l)) = 0
    rw [deep_nats l]
    rfl
theorem shaped_lst (l : List Nat) : SeqAt.shaped (.list (natsD l)) = true := by
  unfold SeqAt.shaped
  rw [Bool.and_eq_true]
  exact ⟨lay_nats l, decide_eq_true (by show PyData.depthAll (natsD l) + 1 ≤ 64; rw [deep_nats]; decide)⟩
theorem shaped_tup (l : List Nat) : SeqAt.shaped (.tuple (natsD l)) = true := by
  unfold SeqAt.shaped
  rw [Bool.and_eq_true]
  exact ⟨lay_nats l, decide_eq_true (by show PyData.depthAll (natsD l) + 1 ≤ 64; rw [deep_nats]; decide)⟩
theorem eqv_nats : ∀ l m : List Nat, PyData.eqvAll (natsD l) (natsD m) = decide (l = m)
  | [], [] => rfl
  | [], _ :: _ => rfl
  | _ :: _, [] => rfl
  | p :: l, q :: m => by
    show (((p : Int) == (q : Int)) && PyData.eqvAll (natsD l) (natsD m)) = _
    rw [eqv_nats l m, Bool.eq_iff_iff]
    simp only [Bool.and_eq_true, beq_iff_eq, decide_eq_true_eq, List.cons.injEq]
    constructor
    · rintro ⟨h1, h2⟩
      exact ⟨by omega, h2⟩
    · rintro ⟨rfl, h2⟩
      exact ⟨rfl, h2⟩
theorem rg_nats (n : Nat) : rgV 0 (n : Int) = nats (List.range n) := by
  unfold rgV
  have e : ((n : Int) - 0).toNat = n := by omega
  rw [e]
  refine List.map_congr_left fun i _ => ?_
  rw [Int.zero_add]
theorem sorted_is {n : Nat} {t : List Nat} (h : Pm.Turn n t) {ns : List Int} (hp : ns.Perm (t.map fun (p : Nat) => (p : Int))) (hs : ns.Pairwise (· ≤ ·)) : ns = (List.range n).map fun (p : Nat) => (p : Int) := by
  have h2 := hp.trans (h.map fun (p : Nat) => (p : Int))
  refine List.Perm.eq_of_pairwise (le := (· ≤ ·)) (fun a b _ _ h1 h2 => Int.le_antisymm h1 h2) hs ?_ h2
  rw [List.pairwise_map]
  exact List.pairwise_lt_range.imp fun h => by omega
theorem ty_tup {K : PySem.W.Frag} {H : Hp} {a : Addr} {xs : List V} (h : SqT K H a xs) : TyX K H (.ref a) (.type "tuple") := by
  rcases h with h | ⟨o, its, n, hk, hc, _⟩
  · rcases h with h | ⟨o, h⟩
    · exact .base (.tup h)
    · exact .fTuple h
  · exact .kTuple hk hc
theorem k_tuple_tuple : kitB "tuple" "tuple" = some true := by decide +kernel
theorem eq_lst (l : List Nat) : PyData.eqv (.list (natsD l)) (.list (natsD l)) = true := (eqv_nats l l).trans (decide_eq_true rfl)
theorem eq_tup (l m : List Nat) : PyData.eqv (.tuple (natsD l)) (.tuple (natsD m)) = decide (l = m) := eqv_nats l m
theorem small_isInt {p : Nat} (h : p ≤ 1000) : isInt (.int (p : Int)) = true := by
  rw [← isInt_abs]
  have : (1000 : Int) < 10 ^ 200 := by decide +kernel
  exact decide_eq_true (by split <;> omega)
section
variable {X : Cx}
def rLcm : List V → Hp → VK → Prop := fun vs H Q => ∃ a b : Int, vs = [.int a, .int b] ∧ a.natAbs < 2 ^ 64 ∧ b.natAbs < 2 ^ 64 ∧ Q (.int ((Nat.lcm a.natAbs b.natAbs : Nat) : Int)) H
theorem cr_lcm : CallR X (.builtin "math.lcm") rLcm := by
  intro pins s σ H vs us Q I r h
  obtain ⟨a, b, rfl, h1, h2, q⟩ := h
  obtain ⟨t, u, rfl⟩ := Vals.int2 r
  exact PySem.W.mc_lcm h1 h2 fun _ => ⟨.int _, H, I.tok _, ⟨_, rfl⟩, q⟩
end
section
variable {P : Program} {w : World} {K : PySem.W.Frag} {mg : Str → Option Value} {base : Heap}
def spOrd (K : PySem.W.Frag) : Sp := fun vs H Q _ => ∃ (a : Addr) (t : List Nat) (n : Nat), vs = [.ref a] ∧ SqT K H a (nats t) ∧ Pm.Turn n t ∧ 1 ≤ n ∧ n ≤ 12 ∧ ∀ (L : Nat) H', Same H H' → Pm.Ord n t L → L ≤ 2 ^ 44 → Q (.int (L : Int)) H'
theorem scOrd : FnScope ["turn", "order", "cycle"] ["turn"] (defScope sOrderOf) := ⟨rfl, rfl, rfl, by decide +kernel, rfl, by decide +kernel, by decide +kernel⟩
theorem lens_at {H : Hp} : ∀ {cs : List Addr} {M : List Nat}, LensAt H cs M → ∀ i (hi : i < cs.length), ∃ (L : List Nat) (m : Nat), M[i]? = some m ∧ H cs[i] = some (.lst (nats L)) ∧ L.length = m := by
  intro cs M h
  unfold LensAt at h
  induction h with
  | nil => intro i hi; cases hi
  | @cons c m cs M r t ih =>
    intro i hi
    cases i with
    | zero =>
      obtain ⟨L, e, hl⟩ := r
      exact ⟨L, m, rfl, e, hl⟩
    | succ i => exact ih i (Nat.lt_of_succ_lt_succ hi)
theorem ok_order {f fC : Addr} {fd fdC : FuncData} (F : Fun K "order_of" "order_of" sOrderOf f fd) (T : Txt K mg) (DC : Df K mg "cycles_of" sCycles ["turn"] fC fdC) : FnOk P w K mg base CX0 2 f fd ["turn"] (spOrd K) := by
  have G := ok_cycles (P := P) (w := w) (base := base) DC.F T
  refine F.ok scOrd (fun vs H Q E h => ?_) (fun cdv A outer s H vs Q E hr h => ?_)
  · obtain ⟨a, t, n, rfl, _⟩ := h
    rfl
  · obtain ⟨a, t, n, rfl, ha, ht, n1, n9, q⟩ := h
    refine ⟨_, pss_cons (ps_set (i := 1) scOrd.nd rfl (Or.inl rfl) pe_int)
      (pss_cons (ps_for PassesOwn.never rfl (pi_list (pe_call G hr (by rfl) DC.m DC.F.kp DC.b .nil pass0 (pa_cons (pv 0) pa_nil))) (pg_name (i := 2) scOrd.nd rfl (Or.inl rfl))
        (pss_one (ps_set (i := 1) scOrd.nd rfl (Or.inl rfl) (pe_callBfun cr_lcm (by rfl) T.lcm (pa_cons (pv 1) (pa_cons (pe_callB call_len_seq (by rfl) T.len PySem.boot_len (pa_cons (pv 2) pa_nil)) pa_nil))))))
      (pss_one (ps_ret (pv 1)))), ?_⟩
    refine ⟨_, rfl, a, t, n, rfl, ha, ht, by omega, fun p H1 cs M s1 e1 hM hL => ?_⟩
    refine ⟨p, rfl, ⟨_, SqL.of e1⟩, ?_⟩
    have hcl : cs.length = M.length := hM.length
    have hb : ∀ i, Pm.lcmOf (M.take i) ≤ 2 ^ 44 := by
      intro i
      have h1 := Pm.lcm_bound (b := 12) (by decide) (M.take i) (fun m hm => Nat.le_trans ((hL.sz m (List.mem_of_mem_take hm)).2) n9) 1
      have h2 : (M.take i).length ≤ 12 := by
        have := hL.ln
        rw [List.length_take]
        omega
      have h3 : 12 ^ (M.take i).length ≤ 12 ^ 12 := Nat.pow_le_pow_right (by decide) h2
      unfold Pm.lcmOf
      rw [Nat.one_mul] at h1
      exact Nat.le_trans h1 (Nat.le_trans h3 (by decide))
    refine for_list (xs := cs.map V.ref) (fun i σ H2 => ∃ t2 : Option V, σ = [some (.ref a), some (.int (Pm.lcmOf (M.take i) : Int)), t2] ∧ Same H1 H2) ⟨none, rfl, Same.refl _⟩ (fun i σ H2 _ z => by obtain ⟨_, _, s2⟩ := z; exact SqL.of (s2 _ _ e1)) ?_ ?_
    · rintro i x σ H2 hx ⟨t2, rfl, s2⟩
      have hi := (List.getElem?_eq_some_iff.mp hx).1
      rw [List.length_map] at hi
      rw [List.getElem?_map, List.getElem?_eq_getElem hi] at hx
      cases hx
      obtain ⟨L, m, hm, ec, hl⟩ := lens_at hM i hi
      have hm9 := (hL.sz m (List.mem_of_getElem? hm)).2
      have hb1 := hb i
      refine ⟨_, rfl, _, rfl, cs[i], _, rfl, .inl (SqL.of (s2 _ _ ec)), _, _, rfl, ?_, ?_, ?_⟩
      · rw [Int.natAbs_natCast]
        exact Nat.lt_of_le_of_lt hb1 (by decide)
      · rw [List.length_map, hl, Int.natAbs_natCast]
        exact Nat.lt_of_le_of_lt (show m ≤ 12 by omega) (by decide)
      · rw [List.length_map, hl, Int.natAbs_natCast, Int.natAbs_natCast]
        exact ⟨_, by rw [Pm.lcm_take hm]; rfl, s2⟩
    · rintro σ H2 ⟨t2, rfl, s2⟩
      rw [List.length_map, List.take_of_length_le (by omega)]
      have := hb M.length
      rw [List.take_of_length_le (Nat.le_refl _)] at this
      exact ⟨_, rfl, q _ H2 (s1.trans s2) (Pm.ord_lcm hL) this⟩
/-! ### what is a turn -/
def spTurnOf (K : PySem.W.Frag) : Sp := fun vs H Q _ => ∃ (a : Addr) (t : List Nat) (n : Nat), vs = [.int (n : Int), .ref a] ∧ SqT K H a (nats t) ∧ Pm.Turn n t ∧ n ≤ 60 ∧ ∀ H', Same H H' → Q (.bl true) H'
theorem scTurnOf : FnScope ["points", "value", "point"] ["points", "value"] (defScope sTurnOf) := ⟨rfl, rfl, rfl, by decide +kernel, rfl, by decide +kernel, by decide +kernel⟩
theorem ok_turnof {f fI : Addr} {fd fdI : FuncData} (F : Fun K "is_turn_of" "is_turn_of" sTurnOf f fd) (T : Txt K mg) (DI : Df K mg "is_integer" sInt ["value"] fI fdI) : FnOk P w K mg base CX0 2 f fd ["points", "value"] (spTurnOf K) := by
  have G := ok_int (P := P) (w := w) (base := base) DI.F T
  refine F.ok scTurnOf (fun vs H Q E h => ?_) (fun cdv A outer s H vs Q E hr h => ?_)
  · obtain ⟨a, t, n, rfl, _⟩ := h
    rfl
  · obtain ⟨a, t, n, rfl, ha, ht, n60, q⟩ := h
    refine ⟨_, pss_cons (ps_if (PW.pt (pw_or (pt_not (pt_val (pe_callB call_isi (by rfl) T.isi (by decide +kernel) (pa_cons (pv 1) (pa_cons (pe_bltn (v := .ty "tuple") (by rfl) T.tuple (by decide +kernel) rfl) pa_nil)))))
        (pw_or (pt_cmpR op_ne (pe_callB call_len_seq (by rfl) T.len PySem.boot_len (pa_cons (pv 1) pa_nil)) (pv 0) (nomark _))
        (pw_or1 (pt_not (pt_val (pe_callB (cr_all rfl) (by rfl) T.all (by decide +kernel) (pa_cons (pe_lc (own := [("point", 2)]) (g := gName 2) (tt := tYes) rfl scTurnOf.nd (pi_tup (pv 1))
          (blkOk_by (own := [("point", 2)]) (N := ["points", "value", "point"]) (sc := defScope sTurnOf) (by decide +kernel)) (fun _ _ _ _ _ => pg_name (i := 2) scTurnOf.nd rfl (Or.inl rfl)) (fun _ _ _ _ _ => pts_nil)
          (fun _ _ _ _ _ => pe_call G hr (by rfl) DI.m DI.F.kp DI.b .nil pass0 (pa_cons (pv 2) pa_nil))) pa_nil)))))))) (pss_one (ps_ret pe_bl)) pss_nil)
      (pss_one (ps_ret (pe_cmpR (op_eqD hr.units) (pe_callB Ur.cr_sortedT (by rfl) T.sorted (by decide +kernel) (pa_cons (pv 1) pa_nil)) (pe_listRg rfl (by rfl) T.list (prg_1 (by rfl) T.range (pv 0))) (nomark _)))), ?_⟩
    have hlen := ht.len
    have hnl : (nats t).length = t.length := List.length_map ..
    refine ⟨_, rfl, _, _, _, _, _, rfl, .ty "tuple", ty_tup ha, kit_ty k_tuple_tuple, true, rfl, iteF ?_⟩
    refine ⟨_, rfl, a, nats t, rfl, .inr ha, _, rfl, rfl, _, rfl, ?_⟩
    rw [dec_int, hnl, hlen, beq_self_eq_true]
    refine iteF ?_
    refine ⟨_, rfl, a, rfl, ⟨_, ha⟩, fun D hD => ?_⟩
    refine lc_tup (xs := nats t) (fun i H1 => Same H H1 ∧ H1 D = some (.lst ((List.replicate i true).map V.bl))) ⟨same_upd hD, upd_same⟩ (fun i H1 _ z => sqt_same z.1 ha) ?_ ?_
    · rintro i x H1 hx ⟨s1, e1⟩
      have hi := (List.getElem?_eq_some_iff.mp hx).1
      have hi' : i < t.length := by rw [List.length_map] at hi; exact hi
      rw [nats_at hi'] at hx
      cases hx
      have hp : t[i] < n := ht.mem.mp (List.getElem_mem hi')
      refine ⟨rfl, iteT (B := False) ?_⟩
      refine ⟨_, rfl, .int (t[i] : Int), .int (t[i] : Int), rfl, .int _, ?_⟩
      rw [small_isInt (by omega)]
      refine ⟨_, e1, ?_, same_put s1 hD, ?_⟩
      · rw [List.length_map, List.length_replicate]
        exact Nat.lt_of_le_of_lt (show i ≤ 60 by omega) (by decide)
      · rw [upd_same, List.replicate_succ', List.map_append]
        rfl
    · rintro H1 ⟨s1, e1⟩
      have hall : (List.replicate (nats t).length true).all id = true := List.all_eq_true.mpr fun b hb => by rw [(List.mem_replicate.mp hb).2]; rfl
      refine ⟨D, _, rfl, SqL.of e1, ?_⟩
      rw [hall]
      refine ⟨_, rfl, iteF ?_⟩
      have ha1 := sqt_same s1 ha
      have en : nats t = (t.map fun (p : Nat) => (p : Int)).map V.int := by rw [List.map_map]; rfl
      refine ⟨_, rfl, a, t.map fun (p : Nat) => (p : Int), rfl, by rw [← en]; exact ha1, by rw [List.length_map]; omega, fun ns' p hp hs np => ?_⟩
      rw [sorted_is ht hp hs]
      have s2 := same_upd (o := .lst (((List.range n).map fun (p : Nat) => (p : Int)).map V.int)) np
      have e2 : (upd H1 p (.lst (((List.range n).map fun (p : Nat) => (p : Int)).map V.int))) p = some (.lst (nats (List.range n))) := by
        rw [upd_same, List.map_map]
        rfl
      generalize upd H1 p (.lst (((List.range n).map fun (p : Nat) => (p : Int)).map V.int)) = H2 at s2 e2 ⊢
      refine ⟨_, rfl, _, rfl, RgOk.of_le (Int.le_refl 0) (by omega) (by decide) (by omega), fun p2 np2 => ?_⟩
      rw [rg_nats]
      have s3 := same_upd (o := .lst (nats (List.range n))) np2
      refine ⟨.list (natsD (List.range n)), .list (natsD (List.range n)), .lst (SqL.of (s3 _ _ e2)) (nats_all K _ _), .lst (SqL.of upd_same) (nats_all K _ _), shaped_lst _, shaped_lst _, ?_⟩
      rw [eq_lst]
      exact q _ ((s1.trans s2).trans s3)
def spIsTurn (K : PySem.W.Frag) : Sp := fun vs H Q _ => ∃ (a : Addr) (t : List Nat) (n : Nat), vs = [.ref a] ∧ SqT K H a (nats t) ∧ Pm.Turn n t ∧ 1 ≤ n ∧ n ≤ 60 ∧ ∀ H', Same H H' → Q (.bl true) H'
theorem scIsTurn : FnScope ["value"] ["value"] (defScope sIsTurn) := ⟨rfl, rfl, rfl, by decide +kernel, rfl, by decide +kernel, by decide +kernel⟩
theorem ok_isturn {f fO fI : Addr} {fd fdO fdI : FuncData} (F : Fun K "is_turn" "is_turn" sIsTurn f fd) (T : Txt K mg) (DO : Df K mg "is_turn_of" sTurnOf ["points", "value"] fO fdO) (DI : Df K mg "is_integer" sInt ["value"] fI fdI) : FnOk P w K mg base CX0 3 f fd ["value"] (spIsTurn K) := by
  have G := ok_turnof (P := P) (w := w) (base := base) DO.F T DI
  refine F.ok scIsTurn (fun vs H Q E h => ?_) (fun cdv A outer s H vs Q E hr h => ?_)
  · obtain ⟨a, t, n, rfl, _⟩ := h
    rfl
  · obtain ⟨a, t, n, rfl, ha, ht, n1, n60, q⟩ := h
    obtain ⟨tm, gm⟩ := T.mPts
    refine ⟨_, pss_one (ps_ret (pe_and (pe_callB call_isi (by rfl) T.isi (by decide +kernel) (pa_cons (pv 0) (pa_cons (pe_bltn (v := .ty "tuple") (by rfl) T.tuple (by decide +kernel) rfl) pa_nil)))
      (pe_and (pe_chain op_le op_le pe_int (pe_callB call_len_seq (by rfl) T.len PySem.boot_len (pa_cons (pv 0) pa_nil)) (pe_glob (v := .int 60) (by rfl) gm ⟨_, rfl⟩))
      (pe_one (pe_call G hr (by rfl) DO.m DO.F.kp DO.b .nil pass0 (pa_cons (pe_callB call_len_seq (by rfl) T.len PySem.boot_len (pa_cons (pv 0) pa_nil)) (pa_cons (pv 0) pa_nil))))))), ?_⟩
    have hlen := ht.len
    have hnl : (nats t).length = t.length := List.length_map ..
    refine ⟨_, rfl, _, _, _, _, _, rfl, .ty "tuple", ty_tup ha, kit_ty k_tuple_tuple, true, rfl, iteT ?_⟩
    refine ⟨_, rfl, a, nats t, rfl, .inr ha, _, _, rfl, rfl, true, congrArg V.bl (decide_eq_true (by rw [hnl, hlen]; omega)), iteT ?_⟩
    refine ⟨_, _, rfl, rfl, true, congrArg V.bl (decide_eq_true (by rw [hnl, hlen]; omega)), iteT ?_⟩
    refine ⟨_, rfl, a, nats t, rfl, .inr ha, _, rfl, a, t, n, by rw [hnl, hlen]; rfl, ha, ht, n60, q⟩
def spCheck (K : PySem.W.Frag) : Sp := fun vs H Q _ => ∃ (a : Addr) (t : List Nat) (n : Nat), vs = [.ref a] ∧ SqT K H a (nats t) ∧ Pm.Turn n t ∧ 1 ≤ n ∧ n ≤ 60 ∧ ∀ H', Same H H' → Q .non H'
theorem scCheck : FnScope ["value"] ["value"] (defScope sCheck) := ⟨rfl, rfl, rfl, by decide +kernel, rfl, by decide +kernel, by decide +kernel⟩
theorem ok_check {f fT fO fI : Addr} {fd fdT fdO fdI : FuncData} (F : Fun K "check_turn" "check_turn" sCheck f fd) (T : Txt K mg) (DT : Df K mg "is_turn" sIsTurn ["value"] fT fdT) (DO : Df K mg "is_turn_of" sTurnOf ["points", "value"] fO fdO) (DI : Df K mg "is_integer" sInt ["value"] fI fdI) : FnOk P w K mg base CX0 4 f fd ["value"] (spCheck K) := by
  have G := ok_isturn (P := P) (w := w) (base := base) DT.F T DO DI
  refine F.ok scCheck (fun vs H Q E h => ?_) (fun cdv A outer s H vs Q E hr h => ?_)
  · obtain ⟨a, t, n, rfl, _⟩ := h
    rfl
  · obtain ⟨a, t, n, rfl, ha, ht, n1, n60, q⟩ := h
    refine ⟨_, pss_one (ps_if (pt_not (pt_val (pe_call G hr (by rfl) DT.m DT.F.kp DT.b .nil pass0 (pa_cons (pv 0) pa_nil)))) (pss_one ps_never) pss_nil), ?_⟩
    exact ⟨_, rfl, a, t, n, rfl, ha, ht, n1, n60, fun H' s1 => ⟨_, rfl, iteF (q H' s1)⟩⟩
/-! ### the program's three -/
/-- what is called by them -/
structure Low (P : Program) (w : World) (K : PySem.W.Frag) (mg : Str → Option Value) (base : Heap) (fC fJ fU fO : Addr) (dC dJ dU dO : FuncData) : Prop where
  DC : Df K mg "check_turn" sCheck ["value"] fC dC
  DJ : Df K mg "joint_of" sJoint ["one", "other"] fJ dJ
  DU : Df K mg "undone_of" sUndoneOf ["turn"] fU dU
  DO : Df K mg "order_of" sOrderOf ["turn"] fO dO
  GC : FnOk P w K mg base CX0 4 fC dC ["value"] (spCheck K)
  GJ : FnOk P w K mg base CX0 1 fJ dJ ["one", "other"] (spJ2 K)
  GU : FnOk P w K mg base CX0 1 fU dU ["turn"] (spJ1 K)
  GO : FnOk P w K mg base CX0 2 fO dO ["turn"] (spOrd K)
def spJ (K : PySem.W.Frag) : Sp := fun vs H Q _ => ∃ (a b : Addr) (t u : List Nat) (n : Nat), vs = [.ref a, .ref b] ∧ SqT K H a (nats t) ∧ SqT K H b (nats u) ∧ Pm.Turn n t ∧ Pm.Turn n u ∧ 1 ≤ n ∧ n ≤ 12 ∧ ∀ p H', Same H H' → Tup H' p (Pm.joint t u) → Q (.ref p) H'
def spU (K : PySem.W.Frag) : Sp := fun vs H Q _ => ∃ (a : Addr) (t : List Nat) (n : Nat), vs = [.ref a] ∧ SqT K H a (nats t) ∧ Pm.Turn n t ∧ 1 ≤ n ∧ n ≤ 12 ∧ ∀ p H', Same H H' → Tup H' p (Pm.undone t) → Q (.ref p) H'
theorem scJ : FnScope ["one", "other"] ["one", "other"] (defScope sJ) := ⟨rfl, rfl, rfl, by decide +kernel, rfl, by decide +kernel, by decide +kernel⟩
theorem scU : FnScope ["turn"] ["turn"] (defScope sU) := ⟨rfl, rfl, rfl, by decide +kernel, rfl, by decide +kernel, by decide +kernel⟩
theorem scO : FnScope ["turn"] ["turn"] (defScope sO) := ⟨rfl, rfl, rfl, by decide +kernel, rfl, by decide +kernel, by decide +kernel⟩
theorem ok_J {f fC fJ fU fO : Addr} {fd dC dJ dU dO : FuncData} (F : Fun K "joint" "joint" sJ f fd) (T : Txt K mg) (G : Low P w K mg base fC fJ fU fO dC dJ dU dO) : FnOk P w K mg base CX0 5 f fd ["one", "other"] (spJ K) := by
  refine F.ok scJ (fun vs H Q E h => ?_) (fun cdv A outer s H vs Q E hr h => ?_)
  · obtain ⟨a, b, t, u, n, rfl, _⟩ := h
    rfl
  · obtain ⟨a, b, t, u, n, rfl, ha, hb, ht, hu', n1, n9, q⟩ := h
    have r1 : Room 1 _ := hr.mono (by decide)
    refine ⟨_, pss_cons (ps_expr (pe_call G.GC hr (by rfl) G.DC.m G.DC.F.kp G.DC.b .nil pass0 (pa_cons (pv 0) pa_nil)))
      (pss_cons (ps_expr (pe_call G.GC hr (by rfl) G.DC.m G.DC.F.kp G.DC.b .nil pass0 (pa_cons (pv 1) pa_nil)))
      (pss_cons (ps_if (pt_cmpR op_ne (pe_callB call_len_seq (by rfl) T.len PySem.boot_len (pa_cons (pv 0) pa_nil)) (pe_callB call_len_seq (by rfl) T.len PySem.boot_len (pa_cons (pv 1) pa_nil)) (nomark _)) (pss_one ps_never) pss_nil)
      (pss_one (ps_ret (pe_call G.GJ r1 (by rfl) G.DJ.m G.DJ.F.kp G.DJ.b .nil pass0 (pa_cons (pv 0) (pa_cons (pv 1) pa_nil))))))), ?_⟩
    have l1 := ht.len
    have l2 := hu'.len
    refine ⟨_, rfl, a, t, n, rfl, ha, ht, n1, by omega, fun H1 s1 => ?_⟩
    refine ⟨_, rfl, b, u, n, rfl, sqt_same s1 hb, hu', n1, by omega, fun H2 s2 => ?_⟩
    have s12 := s1.trans s2
    refine ⟨_, rfl, a, nats t, rfl, .inr (sqt_same s12 ha), _, rfl, b, nats u, rfl, .inr (sqt_same s12 hb), rfl, _, rfl, ?_⟩
    rw [dec_int, List.length_map, List.length_map, l1, l2, beq_self_eq_true]
    refine iteF ?_
    exact ⟨_, rfl, _, rfl, a, b, t, u, rfl, sqt_same s12 ha, sqt_same s12 hb, by omega, fun p hp => by rw [l2]; exact ht.mem.mp hp, fun p H' s h => q p H' (s12.trans s) h⟩
theorem ok_U {f fC fJ fU fO : Addr} {fd dC dJ dU dO : FuncData} (F : Fun K "undone_turn" "undone_turn" sU f fd) (T : Txt K mg) (G : Low P w K mg base fC fJ fU fO dC dJ dU dO) : FnOk P w K mg base CX0 5 f fd ["turn"] (spU K) := by
  refine F.ok scU (fun vs H Q E h => ?_) (fun cdv A outer s H vs Q E hr h => ?_)
  · obtain ⟨a, t, n, rfl, _⟩ := h
    rfl
  · obtain ⟨a, t, n, rfl, ha, ht, n1, n9, q⟩ := h
    have r1 : Room 1 _ := hr.mono (by decide)
    refine ⟨_, pss_cons (ps_expr (pe_call G.GC hr (by rfl) G.DC.m G.DC.F.kp G.DC.b .nil pass0 (pa_cons (pv 0) pa_nil)))
      (pss_one (ps_ret (pe_call G.GU r1 (by rfl) G.DU.m G.DU.F.kp G.DU.b .nil pass0 (pa_cons (pv 0) pa_nil)))), ?_⟩
    refine ⟨_, rfl, a, t, n, rfl, ha, ht, n1, by omega, fun H1 s1 => ?_⟩
    exact ⟨_, rfl, a, t, n, rfl, sqt_same s1 ha, ht, by omega, fun p H' s h => q p H' (s1.trans s) h⟩
theorem ok_O {f fC fJ fU fO : Addr} {fd dC dJ dU dO : FuncData} (F : Fun K "turn_order" "turn_order" sO f fd) (T : Txt K mg) (G : Low P w K mg base fC fJ fU fO dC dJ dU dO) : FnOk P w K mg base CX0 5 f fd ["turn"] (spOrd K) := by
  refine F.ok scO (fun vs H Q E h => ?_) (fun cdv A outer s H vs Q E hr h => ?_)
  · obtain ⟨a, t, n, rfl, _⟩ := h
    rfl
  · obtain ⟨a, t, n, rfl, ha, ht, n1, n9, q⟩ := h
    have r2 : Room 2 _ := hr.mono (by decide)
    refine ⟨_, pss_cons (ps_expr (pe_call G.GC hr (by rfl) G.DC.m G.DC.F.kp G.DC.b .nil pass0 (pa_cons (pv 0) pa_nil)))
      (pss_one (ps_ret (pe_call G.GO r2 (by rfl) G.DO.m G.DO.F.kp G.DO.b .nil pass0 (pa_cons (pv 0) pa_nil)))), ?_⟩
    refine ⟨_, rfl, a, t, n, rfl, ha, ht, n1, by omega, fun H1 s1 => ?_⟩
    exact ⟨_, rfl, a, t, n, rfl, sqt_same s1 ha, ht, n1, n9, fun L H' s h hb => q L H' (s1.trans s) h hb⟩
end
end K42

set_option Elab.async false
set_option linter.all false
set_option maxRecDepth 100000
set_option maxHeartbeats 3200000
namespace K42
open PySem L2 Tx Tg Tm Sr
section
variable {P : Program} {w : World} {K : PySem.W.Frag} {mg : Str → Option Value} {base : Heap}
/-! ### a drawn turn -/
abbrev nDealt : List Str := ["_law_cup_here", "_law_items", "_law_waits", "_law_turn"]
def spDealt : Sp := fun vs H Q _ => ∃ (c a : Addr) (n : Nat), vs = [.ref c, .ref a] ∧ Cup H c ∧ H a = some (.lst (nats (List.range n))) ∧ n ≤ 12 ∧ ∀ p H' t, Cup H' c → But c H H' → H' p = some (.lst (nats t)) → Pm.Turn n t → Q (.ref p) H'
theorem scDealt : FnScope nDealt ["_law_cup_here", "_law_items"] (defScope sDealt) := ⟨rfl, rfl, rfl, by decide +kernel, rfl, by decide +kernel, by decide +kernel⟩
theorem erase_map {α β : Type} (f : α → β) : ∀ (l : List α) (r : Nat), (l.map f).eraseIdx r = (l.eraseIdx r).map f
  | [], _ => rfl
  | _ :: _, 0 => rfl
  | a :: l, r + 1 => by
    show f a :: (l.map f).eraseIdx r = f a :: (l.eraseIdx r).map f
    rw [erase_map f l r]
theorem erase_perm {α : Type} : ∀ (l : List α) (r : Nat) (h : r < l.length), (l[r] :: l.eraseIdx r).Perm l
  | [], _, h => absurd h (Nat.not_lt_zero _)
  | _ :: _, 0, _ => List.Perm.refl _
  | a :: l, r + 1, h => (List.Perm.swap _ _ _).trans ((erase_perm l r (Nat.lt_of_succ_lt_succ h)).cons a)
theorem idx_nat {r n : Nat} (h : r < n) : seqIndex? (r : Int) n = some r := by
  unfold seqIndex?
  have h0 : ¬ ((r : Int) < 0) := by omega
  simp only [h0, if_false]
  have h1 : (0 : Int) ≤ (r : Int) ∧ (r : Int) < (n : Int) := by omega
  simp [h1.2]
  try omega
theorem nat9 {k : Nat} (h : k ≤ 2 ^ 7) : k < 2 ^ 9000 := Nat.lt_of_le_of_lt h (Nat.pow_lt_pow_right (by decide) (by decide))
theorem ok_dealt {f fB : Addr} {fd dB : FuncData} (F : Fun K "_law_dealt" "_law_dealt" sDealt f fd) (T : Txt K mg) (DB : Df K mg "_law_bit" sBit ["_law_cup_here", "_law_much"] fB dB) : FnOk P w K mg base CX0 2 f fd ["_law_cup_here", "_law_items"] spDealt := by
  have GB := ok_bit (P := P) (w := w) (base := base) DB.F T
  refine F.ok scDealt (fun vs H Q E h => ?_) (fun cdv A outer s H vs Q E hr h => ?_)
  · obtain ⟨c, a, n, rfl, _⟩ := h
    rfl
  · obtain ⟨c, a, n, rfl, hc, ha, n9, q⟩ := h
    refine ⟨_, pss_cons (ps_set (i := 2) scDealt.nd rfl (Or.inr rfl) (pe_callTy call_list_of (by rfl) T.list (by decide +kernel) (pa_cons (pv 1) pa_nil)))
      (pss_one (ps_ret (pe_lc (own := [("_law_turn", 3)]) (g := gName 3) (tt := tYes) (te := tBM K "list" rPopAt (tVar 2) (tCons (tCall spBit [] E0 (tCons (tVar 0) (tCons (tCB (fun xs H Q => ∃ p ys, xs = [.ref p] ∧ (SqL K H p ys ∨ SqT K H p ys) ∧ Q (.int ys.length) H) (tCons (tVar 2) tNil)) tNil))) tNil)) rfl scDealt.nd
        (pi_range1 rfl T.range (pa_cons (pe_callB call_len_seq (by rfl) T.len PySem.boot_len (pa_cons (pv 1) pa_nil)) pa_nil))
        (blkOk_by (own := [("_law_turn", 3)]) (N := nDealt) (sc := defScope sDealt) (by decide +kernel))
        (fun _ _ _ _ _ => pg_name (i := 3) scDealt.nd rfl (Or.inl rfl)) (fun _ _ _ _ _ => pts_nil)
        (fun _ _ _ _ _ => pe_bm PySem.F.plainAttrs_list PySem.F.slot_list_pop PySem.F.type_list_pop mt_popAt (pv 2) (pa_cons (pe_call GB hr (by rfl) DB.m DB.F.kp DB.b .nil pass0 (pa_cons (pv 0) (pa_cons (pe_callB call_len_seq (by rfl) T.len PySem.boot_len (pa_cons (pv 2) pa_nil)) pa_nil))) pa_nil))))), ?_⟩
    have hrl : (nats (List.range n)).length = n := by rw [List.length_map, List.length_range]
    refine ⟨_, rfl, a, _, rfl, .inl (SqL.of ha), fun W nW => ?_⟩
    have sW := same_upd (o := .lst (nats (List.range n))) nW
    have eW : (upd H W (.lst (nats (List.range n)))) W = some (.lst (nats (List.range n))) := upd_same
    have nWc : W ≠ c := hc.ne nW
    have hc1 := hc.same sW
    have ha1 := sW _ _ ha
    have hf1 : ∀ b, b ≠ W → H b = none → (upd H W (.lst (nats (List.range n)))) b = none := fun b hb e => by rw [upd_ne hb]; exact e
    generalize upd H W (.lst (nats (List.range n))) = H1 at sW eW hc1 ha1 hf1 ⊢
    refine ⟨_, rfl, a, _, rfl, .inl (SqL.of ha1), _, rfl, by omega, by omega, fun D nD => ?_⟩
    have nDc : D ≠ c := hc1.ne nD
    have nDW : D ≠ W := (ne_of_none eW nD).symm
    have nD0 : H D = none := free_none sW nD
    have en : ((nats (List.range n)).length : Int).toNat = n := by omega
    rw [en]
    refine lc_range (lo := 0) (n := n) (fun i H2 => ∃ got left : List Nat, H2 D = some (.lst (nats got)) ∧ H2 W = some (.lst (nats left)) ∧ got.length = i ∧ (got ++ left).Perm (List.range n) ∧ Cup H2 c ∧ But c H H2)
      ⟨[], List.range n, upd_same, by rw [upd_ne nDW.symm]; exact eW, rfl, List.Perm.refl _, hc1.same (same_upd nD), But.of (sW.trans (same_upd nD))⟩ ?_ ?_
    · rintro i H2 hi ⟨got, left, eD, eW2, hg, hp, hc2, b2⟩
      have hl : left.length = n - i := by
        have := hp.length_eq
        rw [List.length_append, List.length_range] at this
        omega
      have hnl : (nats left).length = left.length := List.length_map ..
      refine ⟨rfl, iteT (B := False) ?_⟩
      refine ⟨_, rfl, .inl ⟨rfl, _, SqL.of eW2⟩, _, rfl, _, rfl, W, _, rfl, .inl (SqL.of eW2), c, _, rfl, hc2, by omega, ?_, fun r H3 r0 rm hc3 b3 => ?_⟩
      · refine nat9 (by rw [hnl, Int.natAbs_natCast]; omega)
      · obtain ⟨r, rfl⟩ : ∃ k : Nat, r = (k : Int) := ⟨r.toNat, by omega⟩
        have hrl2 : r < left.length := by omega
        have eD3 := b3 _ _ nDc eD
        have eW3 := b3 _ _ nWc eW2
        refine ⟨W, _, (r : Int), r, _, rfl, rfl, eW3, by omega, by omega, idx_nat (by rw [hnl]; exact hrl2), nats_at hrl2, ?_⟩
        refine ⟨nats got, by rw [upd_ne nDW]; exact eD3, ?_, got ++ [left[r]], left.eraseIdx r, ?_, ?_, ?_, ?_, ?_, ?_⟩
        · rw [List.length_map, hg]
          exact Nat.lt_of_le_of_lt (show _ ≤ 60 by omega) (by decide)
        · rw [upd_same]
          show _ = some (HO.lst (List.map _ (_ ++ _)))
          rw [List.map_append]
          rfl
        · rw [upd_ne nDW.symm, upd_same]
          show some (HO.lst ((left.map _).eraseIdx r)) = some (HO.lst ((left.eraseIdx r).map _))
          rw [erase_map]
        · rw [List.length_append, hg]
          rfl
        · rw [List.append_assoc]
          exact (List.Perm.append_left got (erase_perm left r hrl2)).trans hp
        · obtain ⟨c0, c1, c2, ec⟩ := hc3
          exact ⟨c0, c1, c2, by rw [upd_ne nDc.symm, upd_ne nWc.symm]; exact ec⟩
        · intro b o n' e
          rw [upd_ne (ne_of_none e nD0), upd_ne (ne_of_none e nW)]
          exact b3 _ _ n' (b2 _ _ n' e)
    · rintro H2 ⟨got, left, eD, eW2, hg, hp, hc2, b2⟩
      have hl : left = [] := by
        have := hp.length_eq
        rw [List.length_append, List.length_range] at this
        exact List.eq_nil_of_length_eq_zero (by omega)
      rw [hl, List.append_nil] at hp
      exact q D H2 got hc2 b2 eD hp
def spAny : Sp := fun vs H Q _ => ∃ (c : Addr) (n : Nat), vs = [.ref c, .int (n : Int)] ∧ Cup H c ∧ n ≤ 12 ∧ ∀ p H' t, Cup H' c → But c H H' → Tup H' p t → Pm.Turn n t → Q (.ref p) H'
theorem scAny : FnScope ["_law_cup_here", "_law_points"] ["_law_cup_here", "_law_points"] (defScope sAny) := ⟨rfl, rfl, rfl, by decide +kernel, rfl, by decide +kernel, by decide +kernel⟩
theorem ok_any {f fD fB : Addr} {fd dD dB : FuncData} (F : Fun K "_law_any_turn" "_law_any_turn" sAny f fd) (T : Txt K mg) (DD : Df K mg "_law_dealt" sDealt ["_law_cup_here", "_law_items"] fD dD) (DB : Df K mg "_law_bit" sBit ["_law_cup_here", "_law_much"] fB dB) : FnOk P w K mg base CX0 3 f fd ["_law_cup_here", "_law_points"] spAny := by
  have GD := ok_dealt (P := P) (w := w) (base := base) DD.F T DB
  refine F.ok scAny (fun vs H Q E h => ?_) (fun cdv A outer s H vs Q E hr h => ?_)
  · obtain ⟨c, n, rfl, _⟩ := h
    rfl
  · obtain ⟨c, n, rfl, hc, n9, q⟩ := h
    refine ⟨_, pss_one (ps_ret (pe_callTy call_tuple_of (by rfl) T.tuple (by decide +kernel) (pa_cons (pe_call GD hr (by rfl) DD.m DD.F.kp DD.b .nil pass0 (pa_cons (pv 0) (pa_cons (pe_listRg rfl (by rfl) T.list (prg_1 (by rfl) T.range (pv 1))) pa_nil))) pa_nil))), ?_⟩
    refine ⟨_, rfl, _, rfl, _, rfl, RgOk.of_le (Int.le_refl 0) (by omega) (by decide) (by omega), fun p1 np1 => ?_⟩
    rw [rg_nats]
    have s1 := same_upd (o := .lst (nats (List.range n))) np1
    refine ⟨c, p1, n, rfl, hc.same s1, upd_same, n9, fun p2 H2 t hc2 b2 e2 ht => ?_⟩
    refine ⟨p2, _, rfl, .inl ⟨SqL.of e2, fun p3 np3 => ?_⟩⟩
    have s3 := same_upd (o := .tup (nats t)) np3
    exact q p3 _ t (hc2.same s3) (((But.of s1).trans b2).trans (But.of s3)) upd_same ht
/-! ### picked, checked, still -/
def spPick (K : PySem.W.Frag) : Sp := fun vs H Q _ => ∃ (c a : Addr) (xs : List V), vs = [.ref c, .ref a] ∧ Cup H c ∧ a ≠ c ∧ (SqL K H a xs ∨ SqT K H a xs) ∧ 0 < xs.length ∧ xs.length ≤ 5000 ∧
  ∀ (i : Nat) (hi : i < xs.length) H', Cup H' c → But c H H' → Q xs[i] H'
theorem scPick : FnScope ["_law_cup_here", "_law_items"] ["_law_cup_here", "_law_items"] (defScope sPick) := ⟨rfl, rfl, rfl, by decide +kernel, rfl, by decide +kernel, by decide +kernel⟩
theorem sql_but {H H' : Hp} {a c : Addr} {xs : List V} (b : But c H H') (n : a ≠ c) (h : SqL K H a xs) : SqL K H' a xs := by
  rcases h with h | h
  · rcases h with h | ⟨o, h⟩
    · exact .inl (.inl (b _ _ n h))
    · exact .inl (.inr ⟨o, b _ _ n h⟩)
  · exact .inr h
theorem sqt_but {H H' : Hp} {a c : Addr} {xs : List V} (b : But c H H') (n : a ≠ c) (h : SqT K H a xs) : SqT K H' a xs := by
  rcases h with h | h
  · rcases h with h | ⟨o, h⟩
    · exact .inl (.inl (b _ _ n h))
    · exact .inl (.inr ⟨o, b _ _ n h⟩)
  · exact .inr h
theorem nat5 {k : Nat} (h : k ≤ 5000) : k < 2 ^ 9000 := Nat.lt_of_le_of_lt h (Nat.lt_of_lt_of_le (by decide : (5000 : Nat) < 2 ^ 13) (Nat.pow_le_pow_right (by decide) (by decide)))
theorem ok_pick {f fB : Addr} {fd dB : FuncData} (F : Fun K "_law_pick" "_law_pick" sPick f fd) (T : Txt K mg) (DB : Df K mg "_law_bit" sBit ["_law_cup_here", "_law_much"] fB dB) : FnOk P w K mg base CX0 2 f fd ["_law_cup_here", "_law_items"] (spPick K) := by
  have GB := ok_bit (P := P) (w := w) (base := base) DB.F T
  refine F.ok scPick (fun vs H Q E h => ?_) (fun cdv A outer s H vs Q E hr h => ?_)
  · obtain ⟨c, a, xs, rfl, _⟩ := h
    rfl
  · obtain ⟨c, a, xs, rfl, hc, hne, ha, h0, h5, q⟩ := h
    refine ⟨_, pss_one (ps_ret (pe_ix (IxR.or ix_list ix_tup) (pv 1) (pe_call GB hr (by rfl) DB.m DB.F.kp DB.b .nil pass0 (pa_cons (pv 0) (pa_cons (pe_callB call_len_seq (by rfl) T.len PySem.boot_len (pa_cons (pv 1) pa_nil)) pa_nil))) (fun _ _ => rfl))), ?_⟩
    refine ⟨_, rfl, _, rfl, _, rfl, a, xs, rfl, ha, c, (xs.length : Int), rfl, hc, by omega, ?_, fun r H1 r0 rm hc1 b1 => ?_⟩
    · exact nat5 (by rw [Int.natAbs_natCast]; exact h5)
    · obtain ⟨r, rfl⟩ : ∃ k : Nat, r = (k : Int) := ⟨r.toNat, by omega⟩
      have hr2 : r < xs.length := by omega
      have at1 : atI xs (r : Int) = some xs[r] := atI_nat (by rw [List.getElem?_eq_getElem hr2])
      rcases ha with ha | ha
      · exact .inl ⟨a, xs, (r : Int), xs[r], rfl, rfl, sql_but b1 hne ha, at1, q r hr2 H1 hc1 b1⟩
      · exact .inr ⟨a, xs, (r : Int), xs[r], rfl, rfl, sqt_but b1 hne ha, at1, q r hr2 H1 hc1 b1⟩
def spStill : Sp := fun vs H Q _ => ∃ (n : Nat), vs = [.int (n : Int)] ∧ n ≤ 1000 ∧ ∀ p H', H p = none → Same H H' → Tup H' p (List.range n) → Q (.ref p) H'
theorem scStill : FnScope ["points"] ["points"] (defScope sStill) := ⟨rfl, rfl, rfl, by decide +kernel, rfl, by decide +kernel, by decide +kernel⟩
theorem ok_still {f : Addr} {fd : FuncData} (F : Fun K "still_turn" "still_turn" sStill f fd) (T : Txt K mg) : FnOk P w K mg base CX0 1 f fd ["points"] spStill := by
  refine F.ok scStill (fun vs H Q E h => ?_) (fun cdv A outer s H vs Q E hr h => ?_)
  · obtain ⟨n, rfl, _⟩ := h
    rfl
  · obtain ⟨n, rfl, hn, q⟩ := h
    refine ⟨_, pss_one (ps_ret (pe_tupRg rfl (by rfl) T.tuple (prg_1 (by rfl) T.range (pv 0)))), ?_⟩
    refine ⟨_, rfl, _, rfl, RgOk.of_le (Int.le_refl 0) (by omega) (by decide) (by omega), fun p np => ?_⟩
    rw [rg_nats]
    exact q p _ np (same_upd np) upd_same
def spBetween : Sp := fun vs H Q _ => ∃ (v lo hi : Nat), vs = [.int (v : Int), .int (lo : Int), .int (hi : Int)] ∧ lo ≤ v ∧ v ≤ hi ∧ v ≤ 1000 ∧ Q .non H
theorem scBetween : FnScope ["value", "least", "most"] ["value", "least", "most"] (defScope sBetween) := ⟨rfl, rfl, rfl, by decide +kernel, rfl, by decide +kernel, by decide +kernel⟩
theorem ok_between {f fI : Addr} {fd fdI : FuncData} (F : Fun K "check_between" "check_between" sBetween f fd) (T : Txt K mg) (DI : Df K mg "is_integer" sInt ["value"] fI fdI) : FnOk P w K mg base CX0 2 f fd ["value", "least", "most"] spBetween := by
  have G := ok_int (P := P) (w := w) (base := base) DI.F T
  refine F.ok scBetween (fun vs H Q E h => ?_) (fun cdv A outer s H vs Q E hr h => ?_)
  · obtain ⟨v, lo, hi, rfl, _⟩ := h
    rfl
  · obtain ⟨v, lo, hi, rfl, h1, h2, h3, q⟩ := h
    refine ⟨_, pss_one (ps_if (PW.pt (pw_or (pt_not (pt_val (pe_call G hr (by rfl) DI.m DI.F.kp DI.b .nil pass0 (pa_cons (pv 0) pa_nil)))) (pw_or (pt_cmpR op_lt (pv 0) (pv 1) (nomark _)) (pw_or1 (pt_cmpR op_gt (pv 0) (pv 2) (nomark _)))))) (pss_one ps_never) pss_nil), ?_⟩
    refine ⟨_, rfl, .int (v : Int), .int (v : Int), rfl, .int _, ?_⟩
    rw [small_isInt h3]
    refine ⟨_, rfl, iteF ?_⟩
    refine ⟨_, rfl, _, rfl, _, _, rfl, rfl, _, rfl, ?_⟩
    rw [decide_eq_false (show ¬ (v : Int) < (lo : Int) by omega)]
    refine iteF ?_
    refine ⟨_, rfl, _, rfl, _, _, rfl, rfl, _, rfl, ?_⟩
    rw [decide_eq_false (show ¬ (v : Int) > (hi : Int) by omega)]
    exact iteF q
def spMost : Sp := fun vs H Q _ => ∃ (v m : Nat), vs = [.int (v : Int), .int (m : Int)] ∧ v ≤ m ∧ Q .non H
theorem scMost : FnScope ["many", "limit"] ["many", "limit"] (defScope sMost) := ⟨rfl, rfl, rfl, by decide +kernel, rfl, by decide +kernel, by decide +kernel⟩
theorem ok_most {f : Addr} {fd : FuncData} (F : Fun K "check_most" "check_most" sMost f fd) (T : Txt K mg) : FnOk P w K mg base CX0 1 f fd ["many", "limit"] spMost := by
  refine F.ok scMost (fun vs H Q E h => ?_) (fun cdv A outer s H vs Q E hr h => ?_)
  · obtain ⟨v, m, rfl, _⟩ := h
    rfl
  · obtain ⟨v, m, rfl, h1, q⟩ := h
    refine ⟨_, pss_one (ps_if (pt_cmpR op_gt (pv 0) (pv 1) (nomark _)) (pss_one ps_never) pss_nil), ?_⟩
    refine ⟨_, rfl, _, rfl, _, _, rfl, rfl, _, rfl, ?_⟩
    rw [decide_eq_false (show ¬ (v : Int) > (m : Int) by omega)]
    exact iteF q
end
end K42

set_option Elab.async false
set_option linter.all false
set_option maxRecDepth 100000
set_option maxHeartbeats 3200000
namespace K42
open PySem L2 Tx Tg Tm Sr
/-! ### the class of spans -/
abbrev sInit : Stmt := inClass sSpan 0
abbrev sPut : Stmt := inClass sSpan 1
abbrev sTurns : Stmt := inClass sSpan 2
abbrev sPutAll : Stmt := inClass sSpan 3
def pf (st k d : Addr) : List (Str × V) := [(("most" : Str), V.int 2000), (("start" : Str), V.ref st), (("kept" : Str), V.ref k), (("found" : Str), V.ref d)]
theorem d_most_start : ¬ (("most" : Str) = "start") := by decide +kernel
theorem d_most_kept : ¬ (("most" : Str) = "kept") := by decide +kernel
theorem d_most_found : ¬ (("most" : Str) = "found") := by decide +kernel
theorem d_start_kept : ¬ (("start" : Str) = "kept") := by decide +kernel
theorem d_start_found : ¬ (("start" : Str) = "found") := by decide +kernel
theorem d_kept_found : ¬ (("kept" : Str) = "found") := by decide +kernel
theorem p1 (v : V) : putF "most" v [] = [(("most" : Str), v)] := rfl
theorem p2 (v u : V) : putF "start" u [(("most" : Str), v)] = [(("most" : Str), v), (("start" : Str), u)] := by
  show (if ("most" : Str) = "start" then _ else (("most" : Str), v) :: putF "start" u []) = _
  rw [if_neg d_most_start]
  rfl
theorem p3 (v u z : V) : putF "kept" z [(("most" : Str), v), (("start" : Str), u)] = [(("most" : Str), v), (("start" : Str), u), (("kept" : Str), z)] := by
  show (if ("most" : Str) = "kept" then _ else (("most" : Str), v) :: (if ("start" : Str) = "kept" then _ else (("start" : Str), u) :: putF "kept" z [])) = _
  rw [if_neg d_most_kept, if_neg d_start_kept]
  rfl
theorem p4 (v u z y : V) : putF "found" y [(("most" : Str), v), (("start" : Str), u), (("kept" : Str), z)] = [(("most" : Str), v), (("start" : Str), u), (("kept" : Str), z), (("found" : Str), y)] := by
  show (if ("most" : Str) = "found" then _ else (("most" : Str), v) :: (if ("start" : Str) = "found" then _ else (("start" : Str), u) :: (if ("kept" : Str) = "found" then _ else (("kept" : Str), z) :: putF "found" y []))) = _
  rw [if_neg d_most_found, if_neg d_start_found, if_neg d_kept_found]
  rfl
theorem lk_hd {f : Str} {v : V} {l : List (Str × V)} : ((f, v) :: l).lookup f = some v := List.lookup_cons_self ..
theorem lk_tl {f g : Str} {v : V} {l : List (Str × V)} (h : ¬ g = f) : ((f, v) :: l).lookup g = l.lookup g := by
  have e : (g == f) = false := by
    rw [beq_eq_false_iff_ne]
    exact h
  simp [List.lookup, e]
theorem lkM (st k d : Addr) : (pf st k d).lookup ("most" : Str) = some (V.int 2000) := lk_hd
theorem lkS (st k d : Addr) : (pf st k d).lookup ("start" : Str) = some (V.ref st) := (lk_tl (Ne.symm d_most_start)).trans lk_hd
theorem lkK (st k d : Addr) : (pf st k d).lookup ("kept" : Str) = some (V.ref k) := (lk_tl (Ne.symm d_most_kept)).trans ((lk_tl (Ne.symm d_start_kept)).trans lk_hd)
theorem lkF (st k d : Addr) : (pf st k d).lookup ("found" : Str) = some (V.ref d) := (lk_tl (Ne.symm d_most_found)).trans ((lk_tl (Ne.symm d_start_found)).trans ((lk_tl (Ne.symm d_kept_found)).trans lk_hd))
theorem lkN (st k d : Addr) {m : Str} (h1 : ¬ m = "most") (h2 : ¬ m = "start") (h3 : ¬ m = "kept") (h4 : ¬ m = "found") : (pf st k d).lookup m = none :=
  (lk_tl h1).trans ((lk_tl h2).trans ((lk_tl h3).trans ((lk_tl h4).trans rfl)))
/-- turns in a list -/
def LstT (H : Hp) (a : Addr) (ts : List (List Nat)) : Prop := ∃ ps : List Addr, H a = some (.lst (ps.map V.ref)) ∧ Tups H ps ts
/-- no tuple stands there -/
def NoT (H : Hp) (a : Addr) : Prop := ∀ xs, H a ≠ some (.tup xs)
theorem NoT.none {H : Hp} {a : Addr} (h : H a = none) : NoT H a := fun xs e => by rw [h] at e; cases e
theorem NoT.lst {H : Hp} {a : Addr} {xs : List V} (h : H a = some (.lst xs)) : NoT H a := fun ys e => by rw [h] at e; cases e
theorem NoT.dT {H : Hp} {a : Addr} {xs : List (List Key × V)} (h : H a = some (.dT xs)) : NoT H a := fun ys e => by rw [h] at e; cases e
theorem tup_upd {H : Hp} {a p : Addr} {t : List Nat} {o : HO} (n : NoT H a) (h : Tup H p t) : Tup (upd H a o) p t := by
  have e : H p = some (.tup (nats t)) := h
  show upd H a o p = _
  rw [upd_ne fun z => n (nats t) (by rw [← z]; exact e)]
  exact e
theorem tups_upd {H : Hp} {a : Addr} {o : HO} {ps : List Addr} {ts : List (List Nat)} (n : NoT H a) (h : Tups H ps ts) : Tups (upd H a o) ps ts := h.mono fun _ _ e => tup_upd n e
theorem tups_same {H H' : Hp} {ps : List Addr} {ts : List (List Nat)} (s : Same H H') (h : Tups H ps ts) : Tups H' ps ts := h.mono fun _ _ e => s _ _ e
theorem tup_but {H H' : Hp} {c p : Addr} {t : List Nat} (n : NoT H c) (b : But c H H') (h : Tup H p t) : Tup H' p t := by
  have e : H p = some (.tup (nats t)) := h
  exact b _ _ (fun z => n (nats t) (by rw [← z]; exact e)) e
theorem tups_but {H H' : Hp} {c : Addr} {ps : List Addr} {ts : List (List Nat)} (n : NoT H c) (b : But c H H') (h : Tups H ps ts) : Tups H' ps ts := h.mono fun _ _ e => tup_but n b e
theorem tups_snoc {H : Hp} {ps : List Addr} {ts : List (List Nat)} {p : Addr} {t : List Nat} (h : Tups H ps ts) (k : Tup H p t) : Tups H (ps ++ [p]) (ts ++ [t]) := each_snoc h k
theorem tups_at {H : Hp} : ∀ {ps : List Addr} {ts : List (List Nat)}, Tups H ps ts → ∀ (i : Nat) (hi : i < ps.length), ∃ hj : i < ts.length, Tup H ps[i] ts[i]
  | [], _, _, i, hi => absurd hi (Nat.not_lt_zero _)
  | p :: ps, _, .cons (b := t) (bs := ts) h r, i, hi => by
    cases i with
    | zero => exact ⟨Nat.succ_pos _, h⟩
    | succ i =>
      obtain ⟨hj, e⟩ := tups_at r i (Nat.lt_of_succ_lt_succ hi)
      exact ⟨Nat.succ_lt_succ hj, e⟩
theorem refs_at {ps : List Addr} {i : Nat} (h : i < ps.length) : (ps.map V.ref)[i]? = some (.ref ps[i]) := by
  rw [List.getElem?_map, List.getElem?_eq_getElem h]
  rfl
/-! ### dicts of turns -/
theorem valV_ent (ts : List (List Nat)) (t : List Nat) : (valV (entT ts) (tkey t)).isSome = decide (t ∈ ts) := by
  rw [← valV_any]
  unfold entT
  rw [List.any_map, Bool.eq_iff_iff, decide_eq_true_iff, List.any_eq_true]
  constructor
  · rintro ⟨u, hu, e⟩
    have e2 : tkey u = tkey t := of_decide_eq_true e
    rw [← tkey_inj e2]
    exact hu
  · intro h
    exact ⟨t, h, decide_eq_true rfl⟩
theorem putK_ent (ts : List (List Nat)) (t : List Nat) : putK (entT ts) (tkey t) (.bl true) = entT (Pm.inse ts t) := by
  unfold putK Pm.inse
  rw [valV_any, valV_ent]
  by_cases h : t ∈ ts
  · rw [decide_eq_true h, if_pos rfl, if_pos h]
    unfold entT
    rw [List.map_map]
    refine List.map_congr_left fun u _ => ?_
    show (if tkey u = tkey t then _ else _) = _
    split <;> rfl
  · rw [decide_eq_false h, if_neg (by decide), if_neg h]
    unfold entT
    rw [List.map_append]
    rfl
theorem ent_len (ts : List (List Nat)) : (entT ts).length = ts.length := List.length_map ..
/-- all of B behind u come to f -/
def addAll (f B : List (List Nat)) (u : List Nat) : List (List Nat) := (B.map fun x => Pm.joint x u).foldl Pm.inse f
theorem inse_len (f : List (List Nat)) (t : List Nat) : (Pm.inse f t).length ≤ f.length + 1 ∧ f.length ≤ (Pm.inse f t).length := by
  unfold Pm.inse
  split
  · omega
  · rw [List.length_append, List.length_singleton]
    omega
theorem add_len (u : List Nat) : ∀ (B f : List (List Nat)), (addAll f B u).length ≤ f.length + B.length ∧ f.length ≤ (addAll f B u).length
  | [], f => ⟨Nat.le_refl _, Nat.le_refl _⟩
  | x :: B, f => by
    have h := add_len u B (Pm.inse f (Pm.joint x u))
    have k := inse_len f (Pm.joint x u)
    show (addAll (Pm.inse f (Pm.joint x u)) B u).length ≤ f.length + (B.length + 1) ∧ f.length ≤ (addAll (Pm.inse f (Pm.joint x u)) B u).length
    omega
theorem add_take {f B : List (List Nat)} {u : List Nat} {i : Nat} (h : i < B.length) : addAll f (B.take (i + 1)) u = Pm.inse (addAll f (B.take i) u) (Pm.joint B[i] u) := by
  unfold addAll
  rw [List.take_add_one, List.getElem?_eq_getElem h]
  show List.foldl Pm.inse f (List.map _ (_ ++ [B[i]])) = _
  rw [List.map_append, List.foldl_append]
  rfl
theorem add_nd (u : List Nat) : ∀ (B : List (List Nat)) {f : List (List Nat)}, f.Nodup → (addAll f B u).Nodup
  | [], _, h => h
  | x :: B, f, h => add_nd u B (Pm.inse_nd (t := Pm.joint x u) h)
theorem add_mem (u : List Nat) : ∀ (B f : List (List Nat)) (y : List Nat), y ∈ addAll f B u ↔ y ∈ f ∨ ∃ b ∈ B, y = Pm.joint b u
  | [], f, y => ⟨.inl, fun h => h.elim id fun ⟨_, hb, _⟩ => nomatch hb⟩
  | x :: B, f, y => by
    show y ∈ addAll (Pm.inse f (Pm.joint x u)) B u ↔ _
    rw [add_mem u B, Pm.inse_mem]
    constructor
    · rintro ((h | h) | ⟨b, hb, h⟩)
      · exact .inl h
      · exact .inr ⟨x, List.mem_cons_self, h⟩
      · exact .inr ⟨b, List.mem_cons_of_mem _ hb, h⟩
    · rintro (h | ⟨b, hb, h⟩)
      · exact .inl (.inl h)
      · rcases List.mem_cons.mp hb with rfl | hb
        · exact .inl (.inr h)
        · exact .inr ⟨b, hb, h⟩
/-! ### a span -/
structure SpanAt (C : Addr) (H0 H : Hp) (p dx st k d : Addr) (n : Nat) (T f : List (List Nat)) : Prop where
  s0 : Same H0 H
  p0 : H0 p = none
  k0 : H0 k = none
  d0 : H0 d = none
  at_ : H p = some (.ins C dx (pf st k d))
  start : Tup H st (List.range n)
  kept : LstT H k T
  found : H d = some (.dT (entT f))
structure ClsT (K : PySem.W.Frag) (mg : Str → Option Value) (C : Addr) : Prop where
  cl : Cls K C
  nM : NoAttr K C "most"
  nS : NoAttr K C "start"
  nK : NoAttr K C "kept"
  nF : NoAttr K C "found"
  mgC : mg "TurnSpan" = some (.ref C)
section
variable {P : Program} {w : World} {K : PySem.W.Frag} {mg : Str → Option Value} {base : Heap}
def spInit (C : Addr) : Sp := fun vs H Q _ => ∃ (H0 : Hp) (p dx : Addr) (n : Nat), vs = [.ref p, .int (n : Int), .int 2000] ∧ n ≤ 1000 ∧ Same H0 H ∧ H0 p = none ∧ H p = some (.ins C dx []) ∧ ∀ st k d H', SpanAt C H0 H' p dx st k d n [] [List.range n] → Q .non H'
theorem scInit : FnScope ["self", "points", "most"] ["self", "points", "most"] (defScope sInit) := ⟨rfl, rfl, rfl, by decide +kernel, rfl, by decide +kernel, by decide +kernel⟩
theorem ok_init {f C fS : Addr} {fd dS : FuncData} (F : Fun K "__init__" "TurnSpan.__init__" sInit f fd) (T : Txt K mg) (c : ClsT K mg C) (DS : Df K mg "still_turn" sStill ["points"] fS dS) : FnOk P w K mg base CX0 2 f fd ["self", "points", "most"] (spInit C) := by
  have GS := ok_still (P := P) (w := w) (base := base) DS.F T
  refine F.ok scInit (fun vs H Q E h => ?_) (fun cdv A outer s H vs Q E hr h => ?_)
  · obtain ⟨H0, p, dx, n, rfl, _⟩ := h
    rfl
  · obtain ⟨H0, p, dx, n, rfl, hn, s0, p0, hp, q⟩ := h
    have hu := hu_of hr
    refine ⟨_, pss_cons (ps_fld (pv 0) (pv 2) rfl) (pss_cons (ps_fld (pv 0) (pe_call GS hr (by rfl) DS.m DS.F.kp DS.b .nil pass0 (pa_cons (pv 1) pa_nil)) rfl) (pss_cons (ps_fld (pv 0) (pe_lst pa_nil) rfl) (pss_one (ps_fld (pv 0) (pe_dispT hu (pe_fld (pv 0) rfl) pe_bl) rfl)))), ?_⟩
    refine ⟨_, rfl, _, rfl, p, C, dx, [], rfl, hp, c.cl, c.nM, (by show 0 < 1000; decide), ?_⟩
    rw [p1]
    have sA : Same H0 (upd H p (.ins C dx [(("most" : Str), V.int 2000)])) := same_put s0 p0
    have eA : (upd H p (.ins C dx [(("most" : Str), V.int 2000)])) p = some (.ins C dx [(("most" : Str), V.int 2000)]) := upd_same
    generalize upd H p (.ins C dx [(("most" : Str), V.int 2000)]) = HA at sA eA ⊢
    refine ⟨_, rfl, n, rfl, hn, fun st H1 nst s1 e1 => ?_⟩
    refine ⟨_, rfl, p, C, dx, _, rfl, s1 _ _ eA, c.cl, c.nS, (by show 1 < 1000; decide), ?_⟩
    rw [p2]
    have sB : Same H0 (upd H1 p (.ins C dx [(("most" : Str), V.int 2000), (("start" : Str), V.ref st)])) := same_put (sA.trans s1) p0
    have eB : (upd H1 p (.ins C dx [(("most" : Str), V.int 2000), (("start" : Str), V.ref st)])) p = some (.ins C dx [(("most" : Str), V.int 2000), (("start" : Str), V.ref st)]) := upd_same
    have tB : Tup (upd H1 p (.ins C dx [(("most" : Str), V.int 2000), (("start" : Str), V.ref st)])) st (List.range n) := tup_upd (fun xs e => by rw [s1 _ _ eA] at e; cases e) e1
    generalize upd H1 p (.ins C dx [(("most" : Str), V.int 2000), (("start" : Str), V.ref st)]) = HB at sB eB tB ⊢
    refine ⟨Nat.zero_le _, fun k nk => ?_⟩
    have nkp : p ≠ k := ne_of_none eB nk
    refine ⟨_, rfl, p, C, dx, _, rfl, (by rw [upd_ne nkp]; exact eB), c.cl, c.nK, (by show 2 < 1000; decide), ?_⟩
    rw [p3]
    have k0 : H0 k = none := free_none sB nk
    have sC : Same H0 (upd (upd HB k (.lst [])) p (.ins C dx [(("most" : Str), V.int 2000), (("start" : Str), V.ref st), (("kept" : Str), V.ref k)])) := same_put (same_put sB k0) p0
    have eC : (upd (upd HB k (.lst [])) p (.ins C dx [(("most" : Str), V.int 2000), (("start" : Str), V.ref st), (("kept" : Str), V.ref k)])) p = some (.ins C dx [(("most" : Str), V.int 2000), (("start" : Str), V.ref st), (("kept" : Str), V.ref k)]) := upd_same
    have kC : (upd (upd HB k (.lst [])) p (.ins C dx [(("most" : Str), V.int 2000), (("start" : Str), V.ref st), (("kept" : Str), V.ref k)])) k = some (.lst []) := by rw [upd_ne nkp.symm, upd_same]
    have tC : Tup (upd (upd HB k (.lst [])) p (.ins C dx [(("most" : Str), V.int 2000), (("start" : Str), V.ref st), (("kept" : Str), V.ref k)])) st (List.range n) :=
      tup_upd (fun xs e => by rw [upd_ne nkp, eB] at e; cases e) (tup_upd (.none nk) tB)
    generalize upd (upd HB k (.lst [])) p (.ins C dx [(("most" : Str), V.int 2000), (("start" : Str), V.ref st), (("kept" : Str), V.ref k)]) = HC at sC eC kC tC ⊢
    intro d nd
    have ndp : p ≠ d := ne_of_none eC nd
    have ndk : k ≠ d := ne_of_none kC nd
    have d0 : H0 d = none := free_none sC nd
    have eD : (upd HC d (.dT [])) p = some (.ins C dx [(("most" : Str), V.int 2000), (("start" : Str), V.ref st), (("kept" : Str), V.ref k)]) := by rw [upd_ne ndp]; exact eC
    have tD : Tup (upd HC d (.dT [])) st (List.range n) := tup_upd (.none nd) tC
    refine ⟨_, rfl, p, C, dx, _, _, rfl, eD, c.cl, c.nS, (lk_tl (Ne.symm d_most_start)).trans lk_hd, ?_⟩
    refine ⟨upd_same, st, tkey (List.range n), rfl, by rw [kV_tkey]; exact tD, ?_⟩
    have eE : (upd (upd HC d (.dT [])) d (.dT [(tkey (List.range n), .bl true)])) p = some (.ins C dx [(("most" : Str), V.int 2000), (("start" : Str), V.ref st), (("kept" : Str), V.ref k)]) := by rw [upd_ne ndp]; exact eD
    refine ⟨_, rfl, p, C, dx, _, rfl, eE, c.cl, c.nF, (by show 3 < 1000; decide), ?_⟩
    rw [p4]
    refine q st k d _ ⟨same_put (same_put (same_put sC d0) d0) p0, p0, k0, d0, upd_same, ?_, ⟨[], ?_, .nil⟩, ?_⟩
    · exact tup_upd (fun xs e => by rw [eE] at e; cases e) (tup_upd (.dT upd_same) tD)
    · rw [upd_ne nkp.symm, upd_ne ndk, upd_ne ndk]
      exact kC
    · rw [upd_ne ndp.symm, upd_same]
      rfl
/-! ### all of a list behind a turn -/
def spPutAll (C : Addr) : Sp := fun vs H Q _ => ∃ (p dx st k d b l : Addr) (n : Nat) (f B : List (List Nat)) (u : List Nat), vs = [.ref p, .ref b, .ref l] ∧ H p = some (.ins C dx (pf st k d)) ∧ H d = some (.dT (entT f)) ∧ LstT H b B ∧ Tup H l u ∧
  (∀ x ∈ B, Pm.Turn n x) ∧ Pm.Turn n u ∧ n ≤ 60 ∧ f.length ≤ 2000 ∧ B.length ≤ 2000 ∧ (addAll f B u).length ≤ 2000 ∧ ∀ H', But d H H' → H' d = some (.dT (entT (addAll f B u))) → Q .non H'
theorem scPutAll : FnScope ["self", "turns", "leader", "turn"] ["self", "turns", "leader"] (defScope sPutAll) := ⟨rfl, rfl, rfl, by decide +kernel, rfl, by decide +kernel, by decide +kernel⟩
theorem ok_putall {f C fJ fM : Addr} {fd dJ dM : FuncData} (F : Fun K "_put_all" "TurnSpan._put_all" sPutAll f fd) (T : Txt K mg) (c : ClsT K mg C) (DJ : Df K mg "joint_of" sJoint ["one", "other"] fJ dJ) (DM : Df K mg "check_most" sMost ["many", "limit"] fM dM) : FnOk P w K mg base CX0 2 f fd ["self", "turns", "leader"] (spPutAll C) := by
  have GJ := ok_joint (P := P) (w := w) (base := base) DJ.F T
  have GM := ok_most (P := P) (w := w) (base := base) DM.F T
  refine F.ok scPutAll (fun vs H Q E h => ?_) (fun cdv A outer s H vs Q E hr h => ?_)
  · obtain ⟨p, dx, st, k, d, b, l, n, f, B, u, rfl, _⟩ := h
    rfl
  · obtain ⟨p, dx, st, k, d, b, l, n, f, B, u, rfl, hp, hd, ⟨bs, eb, hB⟩, hl, tB, tu, n60, lf, lB, la, q⟩ := h
    have hu := hu_of hr
    refine ⟨_, pss_cons (ps_for PassesOwn.never rfl (pi_list (pv 1)) (pg_name (i := 3) scPutAll.nd rfl (Or.inl rfl))
        (pss_one (ps_dput hu (pe_fld (pv 0) rfl) (pe_call GJ hr (by rfl) DJ.m DJ.F.kp DJ.b .nil pass0 (pa_cons (pv 3) (pa_cons (pv 2) pa_nil))) pe_bl rfl)))
      (pss_one (ps_expr (pe_call GM hr (by rfl) DM.m DM.F.kp DM.b .nil pass0 (pa_cons (pe_callB call_len_dT (by rfl) T.len PySem.boot_len (pa_cons (pe_fld (pv 0) rfl) pa_nil)) (pa_cons (pe_fld (pv 0) rfl) pa_nil))))), ?_⟩
    have hnT : NoT H d := .dT hd
    have ndp : p ≠ d := ne_of hp hd (by intro z; cases z)
    have ndb : b ≠ d := ne_of eb hd (by intro z; cases z)
    have hbl := tups_len hB
    refine ⟨_, rfl, b, rfl, ⟨_, SqL.of eb⟩, ?_⟩
    refine for_list (xs := bs.map V.ref) (fun i σ H1 => ∃ t3 : Option V, σ = [some (.ref p), some (.ref b), some (.ref l), t3] ∧ But d H H1 ∧ H1 d = some (.dT (entT (addAll f (B.take i) u))))
      ⟨none, rfl, But.refl _ _, hd⟩ (fun i σ H1 _ z => by obtain ⟨_, _, b1, _⟩ := z; exact SqL.of (b1 _ _ ndb eb)) ?_ ?_
    · rintro i x σ H1 hx ⟨t3, rfl, b1, e1⟩
      have hi := (List.getElem?_eq_some_iff.mp hx).1
      rw [List.length_map] at hi
      rw [refs_at hi] at hx
      cases hx
      obtain ⟨hj, hbi⟩ := tups_at (tups_but hnT b1 hB) i hi
      have tb : Pm.Turn n B[i] := tB _ (List.getElem_mem hj)
      refine ⟨_, rfl, p, C, dx, _, _, rfl, b1 _ _ ndp hp, c.cl, c.nF, lkF _ _ _, ?_⟩
      refine ⟨_, rfl, _, rfl, bs[i], l, B[i], u, rfl, SqT.of hbi, SqT.of (tup_but hnT b1 hl), by rw [tb.len]; omega, fun x hx => by rw [tu.len]; exact tb.mem.mp hx, fun p2 H2 s2 e2 => ?_⟩
      have e2' : H2 p2 = some (.tup ((tkey (Pm.joint B[i] u)).map kV)) := by rw [kV_tkey]; exact e2
      have hlen := (add_len u (B.take i) f).1
      have htk : (B.take i).length ≤ B.length := by rw [List.length_take]; omega
      refine ⟨d, _, rfl, DPut.t (k := tkey (Pm.joint B[i] u)) (s2 _ _ e1) e2' (by rw [ent_len]; exact Nat.lt_of_le_of_lt (show _ ≤ 4000 by omega) (by decide)), _, rfl, ?_, ?_⟩
      · exact fun y o ny ey => by rw [upd_ne ny]; exact s2 _ _ (b1 _ _ ny ey)
      · rw [upd_same, putK_ent, add_take hj]
    · rintro σ H1 ⟨t3, rfl, b1, e1⟩
      rw [List.length_map, List.take_of_length_le (by omega)] at e1
      refine ⟨_, rfl, p, C, dx, _, _, rfl, b1 _ _ ndp hp, c.cl, c.nF, lkF _ _ _, d, _, rfl, e1, ?_⟩
      refine ⟨_, rfl, p, C, dx, _, _, rfl, b1 _ _ ndp hp, c.cl, c.nM, lkM _ _ _, ?_⟩
      refine ⟨(addAll f B u).length, 2000, by rw [ent_len]; rfl, la, q H1 b1 e1⟩
end
end K42

set_option Elab.async false
set_option linter.all false
set_option maxRecDepth 100000
set_option maxHeartbeats 3200000
namespace K42
open PySem L2 Tx Tg Tm Sr
theorem LstT.mono {H H' : Hp} {a : Addr} {ts : List (List Nat)} (h : LstT H a ts) (k : ∀ xs, H a = some (.lst xs) → H' a = some (.lst xs)) (s : ∀ p t, Tup H p t → Tup H' p t) : LstT H' a ts := let ⟨ps, e, ht⟩ := h; ⟨ps, k _ e, ht.mono s⟩
theorem LstT.same {H H' : Hp} {a : Addr} {ts : List (List Nat)} (s : Same H H') (h : LstT H a ts) : LstT H' a ts := h.mono (fun _ e => s _ _ e) fun _ _ e => s _ _ e
theorem LstT.but {H H' : Hp} {a c : Addr} {ts : List (List Nat)} (b : But c H H') (n : a ≠ c) (m : NoT H c) (h : LstT H a ts) : LstT H' a ts := h.mono (fun _ e => b _ _ n e) fun _ _ e => tup_but m b e
theorem LstT.upd {H : Hp} {a c : Addr} {ts : List (List Nat)} {o : HO} (n : a ≠ c) (m : NoT H c) (h : LstT H a ts) : LstT (upd H c o) a ts := h.mono (fun _ e => by rw [upd_ne n]; exact e) fun _ _ e => tup_upd m e
theorem LstT.noT {H : Hp} {a : Addr} {ts : List (List Nat)} (h : LstT H a ts) : NoT H a := let ⟨_, e, _⟩ := h; .lst e
theorem LstT.add {H : Hp} {a q : Addr} {ts : List (List Nat)} {t : List Nat} {ps : List Addr} (e : H a = some (.lst (ps.map V.ref))) (h : Tups H ps ts) (k : Tup H q t) : LstT (L2.upd H a (.lst (ps.map V.ref ++ [V.ref q]))) a (ts ++ [t]) :=
  ⟨ps ++ [q], by rw [upd_same, List.map_append]; rfl, tups_upd (.lst e) (tups_snoc h k)⟩
section
variable {C : Addr} {H0 H H' : Hp} {p dx st k d : Addr} {n : Nat} {T f f' : List (List Nat)}
theorem SpanAt.kp (s : SpanAt C H0 H p dx st k d n T f) : p ≠ k := by
  obtain ⟨ps, e, _⟩ := s.kept
  exact ne_of s.at_ e (by intro z; cases z)
theorem SpanAt.pd (s : SpanAt C H0 H p dx st k d n T f) : p ≠ d := ne_of s.at_ s.found (by intro z; cases z)
theorem SpanAt.kd (s : SpanAt C H0 H p dx st k d n T f) : k ≠ d := by
  obtain ⟨ps, e, _⟩ := s.kept
  exact ne_of e s.found (by intro z; cases z)
theorem SpanAt.but (s : SpanAt C H0 H p dx st k d n T f) (b : But d H H') (e : H' d = some (.dT (entT f'))) : SpanAt C H0 H' p dx st k d n T f' where
  s0 := fun y o ey => b _ _ (fun z => by rw [z, s.d0] at ey; cases ey) (s.s0 _ _ ey)
  p0 := s.p0
  k0 := s.k0
  d0 := s.d0
  at_ := b _ _ s.pd s.at_
  start := tup_but (.dT s.found) b s.start
  kept := s.kept.but b s.kd (.dT s.found)
  found := e
theorem SpanAt.same (s : SpanAt C H0 H p dx st k d n T f) (b : Same H H') : SpanAt C H0 H' p dx st k d n T f where
  s0 := s.s0.trans b
  p0 := s.p0
  k0 := s.k0
  d0 := s.d0
  at_ := b _ _ s.at_
  start := b _ _ s.start
  kept := s.kept.same b
  found := b _ _ s.found
theorem SpanAt.upd {a : Addr} {xs ys : List V} (s : SpanAt C H0 H p dx st k d n T f) (a0 : H0 a = none) (e : H a = some (.lst xs)) (nk : k ≠ a) : SpanAt C H0 (L2.upd H a (.lst ys)) p dx st k d n T f where
  s0 := same_put s.s0 a0
  p0 := s.p0
  k0 := s.k0
  d0 := s.d0
  at_ := by rw [upd_ne (ne_of s.at_ e (by intro z; cases z))]; exact s.at_
  start := tup_upd (.lst e) s.start
  kept := s.kept.upd nk (.lst e)
  found := by rw [upd_ne (ne_of s.found e (by intro z; cases z))]; exact s.found
theorem SpanAt.keep {q : Addr} {t : List Nat} {ps : List Addr} (s : SpanAt C H0 H p dx st k d n T f) (e : H k = some (.lst (ps.map V.ref))) (h : Tups H ps T) (hq : Tup H q t) : SpanAt C H0 (L2.upd H k (.lst (ps.map V.ref ++ [V.ref q]))) p dx st k d n (T ++ [t]) f where
  s0 := same_put s.s0 s.k0
  p0 := s.p0
  k0 := s.k0
  d0 := s.d0
  at_ := by rw [upd_ne s.kp]; exact s.at_
  start := tup_upd (.lst e) s.start
  kept := LstT.add e h hq
  found := by rw [upd_ne s.kd.symm]; exact s.found
end
section
variable {P : Program} {w : World} {K : PySem.W.Frag} {mg : Str → Option Value} {base : Heap}
abbrev nPut : List Str := ["self", "turn", "below", "leaders", "at", "other", "leader"]
def spPut (C : Addr) : Sp := fun vs H Q _ => ∃ (H0 : Hp) (p dx st k d a : Addr) (n : Nat) (T f U : List (List Nat)) (t : List Nat), vs = [.ref p, .ref a] ∧ SpanAt C H0 H p dx st k d n T f ∧ Tup H a t ∧ f.Nodup ∧ (∀ x, x ∈ f ↔ Pm.Gen n T x) ∧
  Pm.Few n (T ++ [t]) U ∧ U.length ≤ 2000 ∧ n ≤ 60 ∧ T.length ≤ 4000 ∧
  ∀ T' f' H', SpanAt C H0 H' p dx st k d n T' f' → f'.Nodup → (∀ x, x ∈ f' ↔ Pm.Gen n T' x) → (∀ x, Pm.Gen n T' x ↔ Pm.Gen n (T ++ [t]) x) → T'.length ≤ T.length + 1 → (∀ s ∈ T', s ∈ T ++ [t]) → Q .non H'
theorem scPut : FnScope nPut ["self", "turn"] (defScope sPut) := ⟨rfl, rfl, rfl, by decide +kernel, rfl, by decide +kernel, by decide +kernel⟩
theorem ok_put {f C fJ fM fA : Addr} {fd dJ dM dA : FuncData} (F : Fun K "put" "TurnSpan.put" sPut f fd) (T : Txt K mg) (c : ClsT K mg C) (DJ : Df K mg "joint_of" sJoint ["one", "other"] fJ dJ) (DM : Df K mg "check_most" sMost ["many", "limit"] fM dM)
    (FA : Fun K "_put_all" "TurnSpan._put_all" sPutAll fA dA) (bA : Binds K dA ["self", "turns", "leader"] []) (mA : Meth K C "_put_all" fA) : FnOk P w K mg base CX0 3 f fd ["self", "turn"] (spPut C) := by
  have GJ := ok_joint (P := P) (w := w) (base := base) DJ.F T
  have GA := ok_putall (P := P) (w := w) (base := base) FA T c DJ DM
  refine F.ok scPut (fun vs H Q E h => ?_) (fun cdv A outer s H vs Q E hr h => ?_)
  · obtain ⟨H0, p, dx, st, k, d, a, n, T0, f, U, t, rfl, _⟩ := h
    rfl
  · obtain ⟨H0, p, dx, st, k, d, a, n, T0, f, U, t, rfl, hs, ha, fn, fm, few, lU, n60, lT, q⟩ := h
    have hu := hu_of hr
    have r1 : Room 1 _ := hr.mono (by decide)
    refine ⟨_, pss_cons (ps_if (pt_cmp (pc_din hu (pv 1) (pe_fld (pv 0) rfl))) (pss_one ps_retN) pss_nil)
      (pss_cons (ps_expr (pe_bm PySem.F.plainAttrs_list PySem.F.slot_list_append PySem.F.type_list_append mt_append (pe_fld (pv 0) rfl) (pa_cons (pv 1) pa_nil)))
      (pss_cons (ps_set (i := 2) scPut.nd rfl (Or.inl rfl) (pe_callTy (call_list_dT rfl) (by rfl) T.list (by decide +kernel) (pa_cons (pe_fld (pv 0) rfl) pa_nil)))
      (pss_cons (ps_set (i := 3) scPut.nd rfl (Or.inl rfl) (pe_lst (pa_cons (pe_fld (pv 0) rfl) pa_nil)))
      (pss_cons (ps_set (i := 4) scPut.nd rfl (Or.inl rfl) pe_int)
      (pss_one (ps_while PassesOwn.never (pt_cmpR op_lt (pv 4) (pe_callB call_len_seq (by rfl) T.len PySem.boot_len (pa_cons (pv 3) pa_nil)) (nomark _))
        (pss_cons (ps_for PassesOwn.never rfl (pi_list (pe_callTy call_list_of (by rfl) T.list (by decide +kernel) (pa_cons (pe_fld (pv 0) rfl) pa_nil))) (pg_name (i := 5) scPut.nd rfl (Or.inl rfl))
          (pss_cons (ps_set (i := 6) scPut.nd rfl (Or.inl rfl) (pe_call GJ r1 (by rfl) DJ.m DJ.F.kp DJ.b .nil pass0 (pa_cons (pe_ix ix_list (pv 3) (pv 4) (fun _ _ => rfl)) (pa_cons (pv 5) pa_nil))))
          (pss_one (ps_if (pt_cmp (pc_dnotin hu (pv 6) (pe_fld (pv 0) rfl)))
            (pss_cons (ps_expr (pe_bm PySem.F.plainAttrs_list PySem.F.slot_list_append PySem.F.type_list_append mt_append (pv 3) (pa_cons (pv 6) pa_nil)))
            (pss_one (ps_expr (pe_meth (pv 0) c.cl mA GA hr bA .nil pass0 (pa_cons (pv 2) (pa_cons (pv 6) pa_nil)))))) pss_nil))))
        (pss_one (ps_set (i := 4) scPut.nd rfl (Or.inl rfl) (pe_op op_add (pv 4) pe_int)))))))))), ?_⟩
    have hT1 := few.1
    have hT0 : ∀ s ∈ T0, Pm.Turn n s := fun s hs => hT1 s (List.mem_append_left _ hs)
    have ht : Pm.Turn n t := hT1 t (by simp)
    refine ⟨_, rfl, _, rfl, p, C, dx, _, _, rfl, hs.at_, c.cl, c.nF, lkF _ _ _, d, _, rfl, DGet.t (k := tkey t) hs.found (by rw [kV_tkey]; exact ha), _, rfl, ?_⟩
    rw [valV_ent]
    by_cases hin : t ∈ f
    · rw [decide_eq_true hin]
      refine iteT ?_
      have e : ∀ x, Pm.Gen n T0 x ↔ Pm.Gen n (T0 ++ [t]) x := fun x => ⟨fun g => g.mono fun s hs => List.mem_append_left _ hs, fun g => g.trans hT0 fun s hs => by
        rcases List.mem_append.mp hs with hs | hs
        · exact .of hT0 hs
        · rw [List.mem_singleton.mp hs]
          exact (fm t).mp hin⟩
      exact q T0 f H hs fn fm e (Nat.le_succ _) fun s hs => List.mem_append_left _ hs
    · rw [decide_eq_false hin]
      refine iteF ?_
      obtain ⟨ps, ek, hps⟩ := id hs.kept
      have lps := tups_len hps
      refine ⟨_, rfl, p, C, dx, _, _, rfl, hs.at_, c.cl, c.nK, lkK _ _ _, .inl ⟨rfl, _, SqL.of ek⟩, _, rfl, k, _, _, rfl, rfl, ek, by rw [List.length_map]; exact Nat.lt_of_le_of_lt (show _ ≤ 4000 by omega) (by decide), ?_⟩
      have hs1 := hs.keep ek hps ha
      generalize L2.upd H k (.lst (ps.map V.ref ++ [V.ref a])) = H1 at hs1 ⊢
      refine ⟨_, rfl, p, C, dx, _, _, rfl, hs1.at_, c.cl, c.nF, lkF _ _ _, d, _, rfl, .inl hs1.found, fun bl bs nbl ik => ?_⟩
      have hbs := tups_of_keys ik
      have hs2 := hs1.same (same_upd (o := .lst (bs.map V.ref)) nbl)
      have hb2 : LstT (L2.upd H1 bl (.lst (bs.map V.ref))) bl f := ⟨bs, upd_same, tups_upd (.none nbl) hbs⟩
      generalize L2.upd H1 bl (.lst (bs.map V.ref)) = H2 at hs2 hb2 ⊢
      refine ⟨_, rfl, p, C, dx, _, _, rfl, hs2.at_, c.cl, c.nS, lkS _ _ _, (by show 1 ≤ sizeLine; decide), fun ld nld => ?_⟩
      have hs3 := hs2.same (same_upd (o := .lst [V.ref st]) nld)
      have hb3 := hb2.same (same_upd (o := .lst [V.ref st]) nld)
      have hl3 : LstT (L2.upd H2 ld (.lst [V.ref st])) ld [List.range n] := ⟨[st], upd_same, .cons (tup_upd (.none nld) hs2.start) .nil⟩
      have ld0 : H0 ld = none := free_none hs2.s0 nld
      have nkl : k ≠ ld := by
        obtain ⟨_, e, _⟩ := hs2.kept
        exact ne_of_none e nld
      have nbll : bl ≠ ld := by
        obtain ⟨_, e, _⟩ := hb2
        exact ne_of_none e nld
      generalize L2.upd H2 ld (.lst [V.ref st]) = H3 at hs3 hb3 hl3 ⊢
      have ft : ∀ x ∈ f, Pm.Turn n x := fun x hx => ((fm x).mp hx).turn hT0
      have h1f : List.range n ∈ f := (fm _).mpr .one
      have fg : ∀ x ∈ f, Pm.Gen n (T0 ++ [t]) x := fun x hx => ((fm x).mp hx).mono fun s hs => List.mem_append_left _ hs
      have lf : f.length ≤ 2000 := Nat.le_trans (Pm.nodup_len fn fun x hx => few.2 x (fg x hx)) lU
      have small : ∀ {L g : List (List Nat)}, Pm.Led n f (T0 ++ [t]) L g → L.length ≤ 2000 ∧ g.length ≤ 2000 := fun {L g} h =>
        ⟨Nat.le_trans (Pm.nodup_len h.ln fun x hx => few.2 x (h.gen x hx)) lU, Nat.le_trans (Pm.nodup_len h.nd fun x hx => few.2 x (h.all fg hT1 x hx)) lU⟩
      refine while_by (fun σ H4 => ∃ (i : Nat) (t5 t6 : Option V) (L g : List (List Nat)), σ = [some (.ref p), some (.ref a), some (.ref bl), some (.ref ld), some (.int (i : Int)), t5, t6] ∧ SpanAt C H0 H4 p dx st k d n (T0 ++ [t]) g ∧
          LstT H4 bl f ∧ LstT H4 ld L ∧ Pm.Led n f (T0 ++ [t]) L g ∧ i ≤ L.length ∧ ∀ l ∈ L.take i, ∀ s ∈ T0 ++ [t], Pm.joint l s ∈ g)
        (fun σ _ => match σ with
          | [_, _, _, _, some (.int m), _, _] => 2001 - m.toNat
          | _ => 0) ⟨0, none, none, [List.range n], f, rfl, hs3, hb3, hl3, Pm.Led.first fn ft, Nat.zero_le _, fun l hl => nomatch hl⟩ ?_ ?_
      · rintro σ H4 ⟨i, t5, t6, L, g, rfl, hs4, hb4, hl4, hL, hi, hdone⟩
        obtain ⟨lp, el, hlp⟩ := id hl4
        have llp := tups_len hlp
        refine ⟨_, rfl, _, rfl, ld, _, rfl, .inl (SqL.of el), _, _, rfl, rfl, _, rfl, ?_⟩
        rw [List.length_map, llp]
        by_cases hlt : i < L.length
        · rw [decide_eq_true (show (i : Int) < (L.length : Int) by omega)]
          refine iteT ?_
          obtain ⟨kp, ekp, hkp⟩ := id hs4.kept
          refine ⟨_, rfl, p, C, dx, _, _, rfl, hs4.at_, c.cl, c.nK, lkK _ _ _, k, _, rfl, .inl (SqL.of ekp), fun W nW => ?_⟩
          have sW := same_upd (o := .lst (kp.map V.ref)) nW
          have eW : (L2.upd H4 W (.lst (kp.map V.ref))) W = some (.lst (kp.map V.ref)) := upd_same
          have hs5 := hs4.same sW
          have hb5 := hb4.same sW
          have hl5 := hl4.same sW
          have hk5 := tups_same sW hkp
          have nWd : W ≠ d := (ne_of_none hs4.found nW).symm
          have nWl : W ≠ ld := (ne_of_none el nW).symm
          generalize L2.upd H4 W (.lst (kp.map V.ref)) = H5 at eW hs5 hb5 hl5 hk5 ⊢
          refine ⟨W, rfl, ⟨_, SqL.of eW⟩, ?_⟩
          have lkp := tups_len hk5
          refine for_list (xs := kp.map V.ref) (fun j σ H6 => ∃ (t5 t6 : Option V) (L2 g2 : List (List Nat)), σ = [some (.ref p), some (.ref a), some (.ref bl), some (.ref ld), some (.int (i : Int)), t5, t6] ∧ SpanAt C H0 H6 p dx st k d n (T0 ++ [t]) g2 ∧
              LstT H6 bl f ∧ LstT H6 ld L2 ∧ H6 W = some (.lst (kp.map V.ref)) ∧ Tups H6 kp (T0 ++ [t]) ∧ Pm.Led n f (T0 ++ [t]) L2 g2 ∧ L2[i]? = some L[i] ∧ L2.take i = L.take i ∧ (∀ x ∈ g, x ∈ g2) ∧ ∀ s ∈ (T0 ++ [t]).take j, Pm.joint L[i] s ∈ g2)
            ⟨t5, t6, L, g, rfl, hs5, hb5, hl5, eW, hk5, hL, List.getElem?_eq_getElem hlt, rfl, fun _ h => h, fun s h => nomatch h⟩ (fun j σ H6 _ z => by obtain ⟨_, _, _, _, _, _, _, _, e, _⟩ := z; exact SqL.of e) ?_ ?_
          · rintro j x σ H6 hx ⟨t5, t6, L2, g2, rfl, hs6, hb6, hl6, eW6, hk6, hL6, eL, tL, sub, hd6⟩
            have hj := (List.getElem?_eq_some_iff.mp hx).1
            rw [List.length_map] at hj
            rw [refs_at hj] at hx
            cases hx
            obtain ⟨hj2, hkj⟩ := tups_at hk6 j hj
            have hs_ : (T0 ++ [t])[j] ∈ T0 ++ [t] := List.getElem_mem hj2
            have tj := hT1 _ hs_
            have hi2 : i < L2.length := (List.getElem?_eq_some_iff.mp eL).1
            have mL : L[i] ∈ L2 := by
              have := List.getElem?_eq_some_iff.mp eL
              rw [← this.2]
              exact List.getElem_mem _
            have tl := (hL6.gen _ mL).turn hT1
            obtain ⟨lp2, el2, hlp2⟩ := id hl6
            have llp2 := tups_len hlp2
            have hi3 : i < lp2.length := by omega
            obtain ⟨_, hli⟩ := tups_at hlp2 i hi3
            have eli : L2[i] = L[i] := (List.getElem?_eq_some_iff.mp eL).2
            rw [eli] at hli
            refine ⟨_, rfl, _, rfl, ld, _, _, _, rfl, rfl, SqL.of el2, atI_nat (refs_at hi3), ?_⟩
            refine ⟨_, rfl, lp2[i], kp[j], L[i], (T0 ++ [t])[j], rfl, SqT.of hli, SqT.of hkj, by rw [tl.len]; omega, fun x hx => by rw [tj.len]; exact tl.mem.mp hx, fun q7 H7 s7 e7 => ?_⟩
            have hs7 := hs6.same s7
            have hb7 := hb6.same s7
            have hk7 := tups_same s7 hk6
            have hlp7 := tups_same s7 hlp2
            refine ⟨_, rfl, _, rfl, p, C, dx, _, _, rfl, hs7.at_, c.cl, c.nF, lkF _ _ _, d, _, rfl, DGet.t (k := tkey (Pm.joint L[i] (T0 ++ [t])[j])) hs7.found (by rw [kV_tkey]; exact e7), _, rfl, ?_⟩
            rw [valV_ent]
            have take : ∀ {g3 : List (List Nat)}, (∀ x ∈ g2, x ∈ g3) → Pm.joint L[i] (T0 ++ [t])[j] ∈ g3 → ∀ s ∈ (T0 ++ [t]).take (j + 1), Pm.joint L[i] s ∈ g3 := fun {g3} h1 h2 s hs => by
              rw [List.take_add_one, List.getElem?_eq_getElem hj2] at hs
              rcases List.mem_append.mp hs with hs | hs
              · exact h1 _ (hd6 s hs)
              · rw [List.mem_singleton.mp hs]
                exact h2
            by_cases hin2 : Pm.joint L[i] (T0 ++ [t])[j] ∈ g2
            · rw [decide_eq_true hin2]
              exact iteF ⟨_, _, L2, g2, rfl, hs7, hb7, hl6.same s7, s7 _ _ eW6, hk7, hL6, eL, tL, sub, take (fun _ h => h) hin2⟩
            · rw [decide_eq_false hin2]
              refine iteT ?_
              have hnL : ¬ Pm.joint L[i] (T0 ++ [t])[j] ∈ L2 := fun z => hin2 (hL6.sub hT1 h1f z)
              have hgen : Pm.Gen n (T0 ++ [t]) (Pm.joint L[i] (T0 ++ [t])[j]) := .step (hL6.gen _ mL) hs_
              have hL8 := hL6.more (f2 := addAll g2 f (Pm.joint L[i] (T0 ++ [t])[j])) hgen hnL (add_nd _ f hL6.nd) (add_mem _ f g2)
              have sm6 := small hL6
              have sm8 := small hL8
              have el7 := s7 _ _ el2
              refine ⟨_, rfl, .inl ⟨rfl, _, SqL.of el7⟩, _, rfl, ld, _, _, rfl, rfl, el7, by rw [List.length_map]; exact Nat.lt_of_le_of_lt (show _ ≤ 2000 by omega) (by decide), ?_⟩
              have hs8 := hs7.upd (ys := lp2.map V.ref ++ [V.ref q7]) ld0 el7 nkl
              have hb8 : LstT (upd H7 ld (.lst (lp2.map V.ref ++ [V.ref q7]))) bl f := hb7.upd nbll (.lst el7)
              have hl8 : LstT (upd H7 ld (.lst (lp2.map V.ref ++ [V.ref q7]))) ld (L2 ++ [Pm.joint L[i] (T0 ++ [t])[j]]) := LstT.add el7 hlp7 e7
              have hk8 : Tups (upd H7 ld (.lst (lp2.map V.ref ++ [V.ref q7]))) kp (T0 ++ [t]) := tups_upd (.lst el7) hk7
              have e8 : Tup (upd H7 ld (.lst (lp2.map V.ref ++ [V.ref q7]))) q7 (Pm.joint L[i] (T0 ++ [t])[j]) := tup_upd (.lst el7) e7
              have eW8 : (upd H7 ld (.lst (lp2.map V.ref ++ [V.ref q7]))) W = some (.lst (kp.map V.ref)) := by rw [upd_ne nWl]; exact s7 _ _ eW6
              generalize upd H7 ld (.lst (lp2.map V.ref ++ [V.ref q7])) = H8 at hs8 hb8 hl8 hk8 e8 eW8 ⊢
              refine ⟨_, rfl, p, dx, _, rfl, hs8.at_, lkN _ _ _ (by decide +kernel) (by decide +kernel) (by decide +kernel) (by decide +kernel), _, rfl, _, rfl, ?_⟩
              refine ⟨p, dx, st, k, d, bl, q7, n, g2, f, _, rfl, hs8.at_, hs8.found, hb8, e8, ft, Pm.turn_joint tl tj, n60, sm6.2, lf, sm8.2, fun H9 b9 e9 => ?_⟩
              have nld' : ld ≠ d := by
                obtain ⟨_, e, _⟩ := hl8
                exact ne_of e hs8.found (by intro z; cases z)
              have nbl' : bl ≠ d := by
                obtain ⟨_, e, _⟩ := hb8
                exact ne_of e hs8.found (by intro z; cases z)
              have nT := NoT.dT hs8.found
              refine ⟨_, _, L2 ++ [Pm.joint L[i] (T0 ++ [t])[j]], addAll g2 f (Pm.joint L[i] (T0 ++ [t])[j]), rfl, hs8.but b9 e9, hb8.but b9 nbl' nT, hl8.but b9 nld' nT, b9 _ _ nWd eW8, tups_but nT b9 hk8, hL8, ?_, ?_, ?_, ?_⟩
              · rw [List.getElem?_append_left hi2]
                exact eL
              · rw [List.take_append_of_le_length (by omega)]
                exact tL
              · exact fun x hx => (add_mem _ f g2 x).mpr (.inl (sub x hx))
              · refine take (fun x hx => (add_mem _ f g2 x).mpr (.inl hx)) ((add_mem _ f g2 _).mpr (.inr ⟨_, h1f, ?_⟩))
                exact (Pm.still_joint (Pm.turn_joint tl tj)).symm
          · rintro σ H6 ⟨t5, t6, L2, g2, rfl, hs6, hb6, hl6, eW6, hk6, hL6, eL, tL, sub, hd6⟩
            have sm6 := small hL6
            have hi2 : i < L2.length := (List.getElem?_eq_some_iff.mp eL).1
            rw [List.length_map, List.take_of_length_le (by omega)] at hd6
            refine ⟨_, rfl, _, _, rfl, rfl, ?_⟩
            refine ⟨⟨i + 1, t5, t6, L2, g2, rfl, hs6, hb6, hl6, hL6, hi2, fun l hl s hs => ?_⟩, ?_⟩
            · rw [List.take_add_one, eL] at hl
              rcases List.mem_append.mp hl with hl | hl
              · rw [tL] at hl
                exact sub _ (hdone l hl s hs)
              · rw [List.mem_singleton.mp hl]
                exact hd6 s hs
            · show 2001 - ((i : Int) + 1).toNat < 2001 - (i : Int).toNat
              omega
        · rw [decide_eq_false (show ¬ (i : Int) < (L.length : Int) by omega)]
          refine iteF ?_
          rw [List.take_of_length_le (by omega)] at hdone
          refine q (T0 ++ [t]) g H4 hs4 hL.nd (hL.done hT1 (fun s hs => List.mem_append_left _ hs) fm hdone) (fun _ => Iff.rfl) ?_ fun s hs => hs
          rw [List.length_append, List.length_singleton]
          exact Nat.le_refl _
      · rintro σ H4 Q1 Q2 hQ ⟨v, e, v2, e2, a', xs, ex, hx, y1, y2, ey1, ey2, c, ec, hq⟩
        exact ⟨v, e, v2, e2, a', xs, ex, hx, y1, y2, ey1, ey2, c, ec, hQ _ _ hq⟩
end
end K42

set_option Elab.async false
set_option linter.all false
set_option maxRecDepth 100000
set_option maxHeartbeats 3200000
namespace K42
open PySem L2 Tx Tg Tm Sr
theorem Rows.same {H H' : Hp} {a : Addr} {ts : List (List Nat)} (s : Same H H') (h : Rows H a ts) : Rows H' a ts := let ⟨ps, e, ht⟩ := h; ⟨ps, s _ _ e, tups_same s ht⟩
section
variable {P : Program} {w : World} {K : PySem.W.Frag} {mg : Str → Option Value} {base : Heap}
def spTurns (C : Addr) : Sp := fun vs H Q _ => ∃ (H0 : Hp) (p dx st k d : Addr) (n : Nat) (T f : List (List Nat)), vs = [.ref p] ∧ SpanAt C H0 H p dx st k d n T f ∧ f.length ≤ 5000 ∧ (∀ t ∈ f, t ≠ []) ∧ ∀ r H', Same H H' → Rows H' r (f.mergeSort Pm.leN) → Q (.ref r) H'
theorem scTurns : FnScope ["self"] ["self"] (defScope sTurns) := ⟨rfl, rfl, rfl, by decide +kernel, rfl, by decide +kernel, by decide +kernel⟩
theorem ok_turns {f C : Addr} {fd : FuncData} (F : Fun K "turns" "TurnSpan.turns" sTurns f fd) (T : Txt K mg) (c : ClsT K mg C) : FnOk P w K mg base CX0 1 f fd ["self"] (spTurns C) := by
  refine F.ok scTurns (fun vs H Q E h => ?_) (fun cdv A outer s H vs Q E hr h => ?_)
  · obtain ⟨H0, p, dx, st, k, d, n, T, f, rfl, _⟩ := h
    rfl
  · obtain ⟨H0, p, dx, st, k, d, n, T0, f, rfl, hs, lf, ne, q⟩ := h
    refine ⟨_, pss_one (ps_ret (pe_callTy call_tuple_of (by rfl) T.tuple (by decide +kernel) (pa_cons (pe_callB (cr_sortedD rfl hr.units) (by rfl) T.sorted (by decide +kernel) (pa_cons (pe_fld (pv 0) rfl) pa_nil)) pa_nil))), ?_⟩
    refine ⟨_, rfl, p, C, dx, _, _, rfl, hs.at_, c.cl, c.nF, lkF _ _ _, d, f, rfl, hs.found, lf, ne, fun pL ps nL hps => ?_⟩
    refine ⟨pL, _, rfl, .inl ⟨SqL.of upd_same, fun pt npt => ?_⟩⟩
    have s1 := same_upd (o := .lst (ps.map V.ref)) nL
    have s2 := s1.trans (same_upd (o := .tup (ps.map V.ref)) npt)
    exact q pt _ s2 ⟨ps, upd_same, tups_same s2 hps⟩
def spSpanned : Sp := fun vs H Q _ => ∃ (a : Addr) (n : Nat) (S U : List (List Nat)), vs = [.int (n : Int), .ref a] ∧ Rows H a S ∧ Pm.Few n S U ∧ U.length ≤ 2000 ∧ 1 ≤ n ∧ n ≤ 60 ∧ S.length ≤ 2000 ∧ ∀ r l H', Same H H' → Rows H' r l → Pm.IsSpan n S l → Q (.ref r) H'
theorem scSpanned : FnScope ["points", "turns", "turn", "span"] ["points", "turns"] (defScope sSpanned) := ⟨rfl, rfl, rfl, by decide +kernel, rfl, by decide +kernel, by decide +kernel⟩
/-- what spanned calls -/
structure LowS (K : PySem.W.Frag) (mg : Str → Option Value) (C fB fI fO fS fJ fM fi fp ft fa : Addr) (dB dI dO dS dJ dM di dp dt da : FuncData) : Prop where
  DB : Df K mg "check_between" sBetween ["value", "least", "most"] fB dB
  DI : Df K mg "is_integer" sInt ["value"] fI dI
  DO : Df K mg "is_turn_of" sTurnOf ["points", "value"] fO dO
  DS : Df K mg "still_turn" sStill ["points"] fS dS
  DJ : Df K mg "joint_of" sJoint ["one", "other"] fJ dJ
  DM : Df K mg "check_most" sMost ["many", "limit"] fM dM
  c : ClsT K mg C
  M : Mk K C fi
  Fi : Fun K "__init__" "TurnSpan.__init__" sInit fi di
  bi : Binds K di ["self", "points", "most"] []
  Fp : Fun K "put" "TurnSpan.put" sPut fp dp
  bp : Binds K dp ["self", "turn"] []
  mp : Meth K C "put" fp
  Ft : Fun K "turns" "TurnSpan.turns" sTurns ft dt
  bt : Binds K dt ["self"] []
  mt : Meth K C "turns" ft
  Fa : Fun K "_put_all" "TurnSpan._put_all" sPutAll fa da
  ba : Binds K da ["self", "turns", "leader"] []
  ma : Meth K C "_put_all" fa
theorem ok_spanned {f C fB fI fO fS fJ fM fi fp ft fa : Addr} {fd dB dI dO dS dJ dM di dp dt da : FuncData} (F : Fun K "spanned" "spanned" sSpanned f fd) (T : Txt K mg) (G : LowS K mg C fB fI fO fS fJ fM fi fp ft fa dB dI dO dS dJ dM di dp dt da) :
    FnOk P w K mg base CX0 4 f fd ["points", "turns"] spSpanned := by
  have GB := ok_between (P := P) (w := w) (base := base) G.DB.F T G.DI
  have GO := ok_turnof (P := P) (w := w) (base := base) G.DO.F T G.DI
  have Gi := ok_init (P := P) (w := w) (base := base) G.Fi T G.c G.DS
  have Gp := ok_put (P := P) (w := w) (base := base) G.Fp T G.c G.DJ G.DM G.Fa G.ba G.ma
  have Gt := ok_turns (P := P) (w := w) (base := base) G.Ft T G.c
  refine F.ok scSpanned (fun vs H Q E h => ?_) (fun cdv A outer s H vs Q E hr h => ?_)
  · obtain ⟨a, n, S, U, rfl, _⟩ := h
    rfl
  · obtain ⟨a, n, S, U, rfl, hS, few, lU, n1, n60, lS, q⟩ := h
    have r2 : Room 2 _ := hr.mono (by decide)
    have r1 : Room 1 _ := hr.mono (by decide)
    obtain ⟨tm, gm⟩ := T.mPts
    obtain ⟨tu, gu⟩ := T.mTur
    refine ⟨_, pss_cons (ps_expr (pe_call GB r2 (by rfl) G.DB.m G.DB.F.kp G.DB.b .nil pass0 (pa_cons (pv 0) (pa_cons pe_int (pa_cons (pe_glob (v := .int 60) (by rfl) gm ⟨_, rfl⟩) pa_nil)))))
      (pss_cons (ps_if (PW.pt (pw_or (pt_not (pt_val (pe_callB call_isi (by rfl) T.isi (by decide +kernel) (pa_cons (pv 1) (pa_cons (pe_bltn (v := .ty "tuple") (by rfl) T.tuple (by decide +kernel) rfl) pa_nil)))))
        (pw_or1 (pt_not (pt_val (pe_callB (cr_all rfl) (by rfl) T.all (by decide +kernel) (pa_cons (pe_lc (own := [("turn", 2)]) (g := gName 2) (tt := tYes) rfl scSpanned.nd (pi_tup (pv 1))
          (blkOk_by (own := [("turn", 2)]) (N := ["points", "turns", "turn", "span"]) (sc := defScope sSpanned) (by decide +kernel)) (fun _ _ _ _ _ => pg_name (i := 2) scSpanned.nd rfl (Or.inl rfl)) (fun _ _ _ _ _ => pts_nil)
          (fun _ _ _ _ _ => pe_call GO r2 (by rfl) G.DO.m G.DO.F.kp G.DO.b .nil pass0 (pa_cons (pv 0) (pa_cons (pv 2) pa_nil)))) pa_nil))))))) (pss_one ps_never) pss_nil)
      (pss_cons (ps_set (i := 3) scSpanned.nd rfl (Or.inl rfl) (pe_make G.M Gi hr (by rfl) G.c.mgC G.bi .nil pass0 (pa_cons (pv 0) (pa_cons (pe_glob (v := .int 2000) (by rfl) gu ⟨_, rfl⟩) pa_nil))))
      (pss_cons (ps_for PassesOwn.never rfl (pi_tup (pv 1)) (pg_name (i := 2) scSpanned.nd rfl (Or.inl rfl)) (pss_one (ps_expr (pe_meth (pv 3) G.c.cl G.mp Gp hr G.bp .nil pass0 (pa_cons (pv 2) pa_nil)))))
      (pss_one (ps_ret (pe_meth0 (pv 3) G.c.cl G.mt Gt r1 G.bt .nil pass0)))))), ?_⟩
    obtain ⟨ps, ea, hps⟩ := id hS
    have lps := tups_len hps
    refine ⟨_, rfl, n, 1, 60, rfl, n1, n60, by omega, ?_⟩
    refine ⟨_, rfl, _, _, _, _, _, rfl, .ty "tuple", ty_tup (SqT.of ea), kit_ty k_tuple_tuple, true, rfl, iteF ?_⟩
    refine ⟨_, rfl, a, rfl, ⟨_, SqT.of ea⟩, fun D hD => ?_⟩
    refine lc_tup (xs := ps.map V.ref) (fun i H1 => Same H H1 ∧ H1 D = some (.lst ((List.replicate i true).map V.bl))) ⟨same_upd hD, upd_same⟩ (fun i H1 _ z => SqT.of (z.1 _ _ ea)) ?_ ?_
    · rintro i x H1 hx ⟨s1, e1⟩
      have hi := (List.getElem?_eq_some_iff.mp hx).1
      rw [List.length_map] at hi
      rw [refs_at hi] at hx
      cases hx
      obtain ⟨hj, ht⟩ := tups_at (tups_same s1 hps) i hi
      have tt := few.1 _ (List.getElem_mem hj)
      refine ⟨rfl, iteT (B := False) ?_⟩
      refine ⟨_, rfl, _, rfl, ps[i], S[i], n, rfl, SqT.of ht, tt, n60, fun H2 s2 => ?_⟩
      refine ⟨_, s2 _ _ e1, ?_, same_put (s1.trans s2) hD, ?_⟩
      · rw [List.length_map, List.length_replicate]
        exact Nat.lt_of_le_of_lt (show i ≤ 2000 by omega) (by decide)
      · rw [upd_same, List.replicate_succ', List.map_append]
        rfl
    · rintro H1 ⟨s1, e1⟩
      have hall : (List.replicate (ps.map V.ref).length true).all id = true := List.all_eq_true.mpr fun b hb => by rw [(List.mem_replicate.mp hb).2]; rfl
      refine ⟨D, _, rfl, SqL.of e1, ?_⟩
      rw [hall]
      refine ⟨_, rfl, iteF ?_⟩
      refine ⟨_, rfl, fun x dx nx ndx nex => ?_⟩
      have sX : Same H (upd (upd H1 dx (.own x)) x (.ins C dx [])) := s1.trans fun b o e => by
        rw [upd_ne (ne_of_none e nx), upd_ne (ne_of_none e ndx)]
        exact e
      refine ⟨H, x, dx, n, rfl, by omega, sX, free_none s1 nx, upd_same, fun st k d H2 hs => ⟨rfl, ?_⟩⟩
      refine ⟨_, rfl, a, rfl, ⟨_, SqT.of (hs.s0 _ _ ea)⟩, ?_⟩
      refine for_tup (xs := ps.map V.ref) (fun i σ H3 => ∃ (t2 : Option V) (T0 f0 : List (List Nat)), σ = [some (.int (n : Int)), some (.ref a), t2, some (.ref x)] ∧ SpanAt C H H3 x dx st k d n T0 f0 ∧ f0.Nodup ∧ (∀ x, x ∈ f0 ↔ Pm.Gen n T0 x) ∧
          (∀ x, Pm.Gen n T0 x ↔ Pm.Gen n (S.take i) x) ∧ T0.length ≤ i ∧ ∀ s ∈ T0, Pm.Turn n s)
        ⟨none, [], [List.range n], rfl, hs, List.pairwise_singleton _ _, ?_, fun _ => Iff.rfl, Nat.le_refl _, fun s hs => nomatch hs⟩ (fun i σ H3 _ z => by obtain ⟨_, _, _, _, h, _⟩ := z; exact SqT.of (h.s0 _ _ ea)) ?_ ?_
      · intro y
        rw [List.mem_singleton]
        constructor
        · rintro rfl
          exact .one
        · intro g
          cases g with
          | one => rfl
          | step _ hs => exact nomatch hs
      · rintro i y σ H3 hy ⟨t2, T0, f0, rfl, hs3, fn, fm, gT, lT, tT⟩
        have hi := (List.getElem?_eq_some_iff.mp hy).1
        rw [List.length_map] at hi
        rw [refs_at hi] at hy
        cases hy
        obtain ⟨hj, ht⟩ := tups_at (tups_same hs3.s0 hps) i hi
        have tt := few.1 _ (List.getElem_mem hj)
        have hTS : ∀ s ∈ T0 ++ [S[i]], Pm.Gen n S s := fun s hs => by
          rcases List.mem_append.mp hs with hs | hs
          · exact ((gT s).mp (.of tT hs)).mono fun s hs => List.mem_of_mem_take hs
          · rw [List.mem_singleton.mp hs]
            exact .of few.1 (List.getElem_mem hj)
        have few1 := few.trans hTS
        refine ⟨_, rfl, x, dx, _, rfl, hs3.at_, lkN _ _ _ (by decide +kernel) (by decide +kernel) (by decide +kernel) (by decide +kernel), _, rfl, ?_⟩
        refine ⟨H, x, dx, st, k, d, ps[i], n, T0, f0, U, S[i], rfl, hs3, ht, fn, fm, few1, lU, n60, by omega, fun T1 f1 H4 hs4 fn1 fm1 g1 l1 sub => ?_⟩
        refine ⟨_, T1, f1, rfl, hs4, fn1, fm1, fun y => (g1 y).trans ⟨fun g => ?_, fun g => ?_⟩, by omega, fun s hs => few1.1 s (sub s hs)⟩
        · have et : S.take (i + 1) = S.take i ++ [S[i]] := by
            rw [List.take_add_one, List.getElem?_eq_getElem hj]
            rfl
          refine g.trans (fun s hs => few.1 s (List.mem_of_mem_take hs)) fun s hs => ?_
          rcases List.mem_append.mp hs with hs | hs
          · rw [et]
            exact ((gT s).mp (.of tT hs)).mono fun s hs => List.mem_append_left _ hs
          · rw [List.mem_singleton.mp hs]
            exact .of (fun s hs => few.1 s (List.mem_of_mem_take hs)) (by rw [et]; exact List.mem_append_right _ (List.mem_singleton.mpr rfl))
        · refine g.trans few1.1 fun s hs => ?_
          rw [List.take_add_one, List.getElem?_eq_getElem hj] at hs
          rcases List.mem_append.mp hs with hs | hs
          · exact ((gT s).mpr (.of (fun s hs => few.1 s (List.mem_of_mem_take hs)) hs)).mono fun s hs => List.mem_append_left _ hs
          · have : s = S[i] := by simpa using hs
            rw [this]
            exact .of few1.1 (by simp)
      · rintro σ H3 ⟨t2, T0, f0, rfl, hs3, fn, fm, gT, lT, tT⟩
        rw [List.length_map, List.take_of_length_le (by omega)] at gT
        have hm : ∀ x, x ∈ f0 ↔ Pm.Gen n S x := fun x => (fm x).trans (gT x)
        have lf : f0.length ≤ 2000 := Nat.le_trans (Pm.nodup_len fn fun x hx => few.2 x ((hm x).mp hx)) lU
        refine ⟨_, rfl, x, dx, _, rfl, hs3.at_, lkN _ _ _ (by decide +kernel) (by decide +kernel) (by decide +kernel) (by decide +kernel), ?_⟩
        refine ⟨H, x, dx, st, k, d, n, T0, f0, rfl, hs3, by omega, fun t ht e => ?_, fun r H4 s4 h4 => ?_⟩
        · have := (((hm t).mp ht).turn few.1).len
          rw [e] at this
          exact absurd this (by show ¬ 0 = n; omega)
        · exact q r _ H4 (hs3.s0.trans s4) h4 (.of_sort fn hm)
end
end K42

set_option Elab.async false
set_option linter.all false
set_option maxRecDepth 100000
set_option maxHeartbeats 3200000
namespace K42
open PySem L2 Tx Tg Tm Sr
/-! ### tuples of turns as data -/
abbrev tupsD (ts : List (List Nat)) : List PyData := ts.map tupD
theorem dp_tup {K : PySem.W.Frag} {H : Hp} {p : Addr} {t : List Nat} (h : Tup H p t) : Dp K H (.ref p) (tupD t) := .tup (SqT.of h) (nats_all K H t)
theorem dp_tups {K : PySem.W.Frag} {H : Hp} : ∀ {ps : List Addr} {ts : List (List Nat)}, Tups H ps ts → DpAll K H (ps.map V.ref) (tupsD ts)
  | _, _, .nil => .nil
  | _, _, .cons h r => .cons (dp_tup h) (dp_tups r)
theorem dp_rows {K : PySem.W.Frag} {H : Hp} {p : Addr} {ts : List (List Nat)} (h : Rows H p ts) : Dp K H (.ref p) (.tuple (tupsD ts)) := let ⟨_, e, ht⟩ := h; .tup (SqT.of e) (dp_tups ht)
theorem dp_lstT {K : PySem.W.Frag} {H : Hp} {p : Addr} {ts : List (List Nat)} (h : LstT H p ts) : Dp K H (.ref p) (.list (tupsD ts)) := let ⟨_, e, ht⟩ := h; .lst (SqL.of e) (dp_tups ht)
theorem lay_tups : ∀ ts : List (List Nat), PyData.canLayAll0 (tupsD ts) = true
  | [] => rfl
  | t :: ts => by
    show (PyData.canLayAll0 (natsD t) && PyData.canLayAll0 (tupsD ts)) = true
    rw [lay_nats, lay_tups ts]
    rfl
theorem deep_tups : ∀ ts : List (List Nat), PyData.depthAll (tupsD ts) ≤ 1
  | [] => by decide
  | t :: ts => by
    show max (PyData.depthAll (natsD t) + 1) (PyData.depthAll (tupsD ts)) ≤ 1
    rw [deep_nats]
    exact Nat.max_le.mpr ⟨Nat.le_refl _, deep_tups ts⟩
theorem shaped_rows (ts : List (List Nat)) : SeqAt.shaped (.tuple (tupsD ts)) = true := by
  unfold SeqAt.shaped
  rw [Bool.and_eq_true]
  have := deep_tups ts
  exact ⟨lay_tups ts, decide_eq_true (by show PyData.depthAll (tupsD ts) + 1 ≤ 64; omega)⟩
theorem shaped_lstT (ts : List (List Nat)) : SeqAt.shaped (.list (tupsD ts)) = true := by
  unfold SeqAt.shaped
  rw [Bool.and_eq_true]
  have := deep_tups ts
  exact ⟨lay_tups ts, decide_eq_true (by show PyData.depthAll (tupsD ts) + 1 ≤ 64; omega)⟩
theorem eqv_tups : ∀ ts us : List (List Nat), PyData.eqvAll (tupsD ts) (tupsD us) = decide (ts = us)
  | [], [] => rfl
  | [], _ :: _ => rfl
  | _ :: _, [] => rfl
  | t :: ts, u :: us => by
    show (PyData.eqvAll (natsD t) (natsD u) && PyData.eqvAll (tupsD ts) (tupsD us)) = _
    rw [eqv_nats, eqv_tups ts us, Bool.eq_iff_iff]
    simp only [Bool.and_eq_true, decide_eq_true_eq, List.cons.injEq]
theorem eq_rows (ts us : List (List Nat)) : PyData.eqv (.tuple (tupsD ts)) (.tuple (tupsD us)) = decide (ts = us) := eqv_tups ts us
theorem eq_lstT (ts us : List (List Nat)) : PyData.eqv (.list (tupsD ts)) (.list (tupsD us)) = decide (ts = us) := eqv_tups ts us
theorem snoc_of {α : Type} : ∀ {l : List α}, l ≠ [] → ∃ (m : List α) (x : α), l = m ++ [x] := fun {l} h => ⟨l.dropLast, l.getLast h, (List.dropLast_concat_getLast h).symm⟩
theorem tups_split {H : Hp} : ∀ {ps : List Addr} {ts : List (List Nat)} {t : List Nat}, Tups H ps (ts ++ [t]) → ∃ (qs : List Addr) (q : Addr), ps = qs ++ [q] ∧ Tups H qs ts ∧ Tup H q t
  | _, [], _, .cons h .nil => ⟨[], _, rfl, .nil, h⟩
  | _, _ :: ts, _, .cons h r => by
    obtain ⟨qs, q, e, h1, h2⟩ := tups_split r
    exact ⟨_ :: qs, q, by rw [e]; rfl, .cons h h1, h2⟩
section
variable {P : Program} {w : World} {K : PySem.W.Frag} {mg : Str → Option Value} {base : Heap}
abbrev nMade : List Str := ["_law_points", "_law_some", "_law_found", "_law_waits", "_law_turn", "_law_one", "_law_later"]
def spMade : Sp := fun vs H Q _ => ∃ (a : Addr) (n : Nat) (S U : List (List Nat)), vs = [.int (n : Int), .ref a] ∧ Rows H a S ∧ Pm.Few n S U ∧ U.length ≤ 2000 ∧ 1 ≤ n ∧ n ≤ 60 ∧ ∀ r l H', Same H H' → LstT H' r l → Pm.IsSpan n S l → Q (.ref r) H'
theorem scMade : FnScope nMade ["_law_points", "_law_some"] (defScope sMade) := ⟨rfl, rfl, rfl, by decide +kernel, rfl, by decide +kernel, by decide +kernel⟩
theorem ok_made {f fL : Addr} {fd dL : FuncData} (F : Fun K "_law_made_by" "_law_made_by" sMade f fd) (T : Txt K mg) (DL : Df K mg "_law_led_on" sLedOn ["_law_turn", "_law_other"] fL dL) : FnOk P w K mg base CX0 2 f fd ["_law_points", "_law_some"] spMade := by
  have GL := ok_ledon (P := P) (w := w) (base := base) DL.F T
  refine F.ok scMade (fun vs H Q E h => ?_) (fun cdv A outer s H vs Q E hr h => ?_)
  · obtain ⟨a, n, S, U, rfl, _⟩ := h
    rfl
  · obtain ⟨a, n, S, U, rfl, hS, few, lU, n1, n60, q⟩ := h
    have hu := hu_of hr
    refine ⟨_, pss_cons (ps_par (i := 2) (j := 3) (by rfl) scMade.nd rfl rfl (by decide) rfl rfl (pa_cons (pe_dispT hu (pe_tupRg rfl (by rfl) T.tuple (prg_1 (by rfl) T.range (pv 0))) pe_bl) (pa_cons (pe_lst (pa_cons (pe_tupRg rfl (by rfl) T.tuple (prg_1 (by rfl) T.range (pv 0))) pa_nil)) pa_nil)) (by rfl))
      (pss_cons (ps_while PassesOwn.never (pt_cmpR (op_neD hr.units) (pv 3) (pe_lst pa_nil) (nomark _))
        (pss_cons (ps_set (i := 4) scMade.nd rfl (Or.inl rfl) (pe_bm0 PySem.F.plainAttrs_list PySem.F.slot_list_pop PySem.F.type_list_pop mt_pop (pv 3)))
        (pss_one (ps_for PassesOwn.never rfl (pi_tup (pv 1)) (pg_name (i := 5) scMade.nd rfl (Or.inl rfl))
          (pss_cons (ps_set (i := 6) scMade.nd rfl (Or.inl rfl) (pe_call GL hr (by rfl) DL.m DL.F.kp DL.b .nil pass0 (pa_cons (pv 4) (pa_cons (pv 5) pa_nil))))
          (pss_one (ps_if (pt_cmp (pc_dnotin hu (pv 6) (pv 2)))
            (pss_cons (ps_dput hu (pv 2) (pv 6) pe_bl rfl) (pss_one (ps_expr (pe_bm PySem.F.plainAttrs_list PySem.F.slot_list_append PySem.F.type_list_append mt_append (pv 3) (pa_cons (pv 6) pa_nil))))) pss_nil)))))))
      (pss_one (ps_ret (pe_callB (cr_sortedD rfl hr.units) (by rfl) T.sorted (by decide +kernel) (pa_cons (pv 2) pa_nil))))), ?_⟩
    obtain ⟨ps, ea, hps⟩ := id hS
    have lps := tups_len hps
    intro d nd
    refine ⟨_, rfl, _, rfl, RgOk.of_le (Int.le_refl 0) (by omega) (by decide) (by omega), fun p1 np1 => ?_⟩
    rw [rg_nats]
    have s0 := same_upd (o := .dT []) nd
    have s1 := s0.trans (same_upd (o := .tup (nats (List.range n))) np1)
    have e1 : (upd (upd H d (.dT [])) p1 (.tup (nats (List.range n)))) d = some (.dT []) := by
      rw [upd_ne (ne_of_none upd_same np1)]
      exact upd_same
    have t1 : (upd (upd H d (.dT [])) p1 (.tup (nats (List.range n)))) p1 = some (.tup ((tkey (List.range n)).map kV)) := by rw [kV_tkey]; exact upd_same
    generalize upd (upd H d (.dT [])) p1 (.tup (nats (List.range n))) = H1 at s1 e1 t1 ⊢
    refine ⟨e1, p1, tkey (List.range n), rfl, t1, ?_⟩
    have s2 := same_put (o := .dT [(tkey (List.range n), .bl true)]) s1 nd
    have e2 : (upd H1 d (.dT [(tkey (List.range n), .bl true)])) d = some (.dT (entT [List.range n])) := upd_same
    generalize upd H1 d (.dT [(tkey (List.range n), .bl true)]) = H2 at s2 e2 ⊢
    refine ⟨_, rfl, _, rfl, RgOk.of_le (Int.le_refl 0) (by omega) (by decide) (by omega), fun p2 np2 => ?_⟩
    rw [rg_nats]
    refine ⟨(by show 1 ≤ sizeLine; decide), fun wl nwl => ?_⟩
    have s3 := (s2.trans (same_upd (o := .tup (nats (List.range n))) np2)).trans (same_upd (o := .lst [V.ref p2]) nwl)
    have e3 := (same_upd (o := .lst [V.ref p2]) nwl) _ _ ((same_upd (o := .tup (nats (List.range n))) np2) _ _ e2)
    have w3 : LstT (upd (upd H2 p2 (.tup (nats (List.range n)))) wl (.lst [V.ref p2])) wl [List.range n] := ⟨[p2], upd_same, .cons (tup_upd (.none nwl) upd_same) .nil⟩
    have nwl0 : H wl = none := free_none (s2.trans (same_upd (o := .tup (nats (List.range n))) np2)) nwl
    generalize upd (upd H2 p2 (.tup (nats (List.range n)))) wl (.lst [V.ref p2]) = H3 at s3 e3 w3 ⊢
    refine ⟨_, _, rfl, ?_⟩
    have small : ∀ {g : List (List Nat)}, g.Nodup → (∀ x ∈ g, Pm.Gen n S x) → g.length ≤ 2000 := fun {g} h1 h2 => Nat.le_trans (Pm.nodup_len h1 fun x hx => few.2 x (h2 x hx)) lU
    refine while_by (fun σ H4 => ∃ (t4 t5 t6 : Option V) (ws g : List (List Nat)), σ = [some (.int (n : Int)), some (.ref a), some (.ref d), some (.ref wl), t4, t5, t6] ∧ Same H H4 ∧ H4 d = some (.dT (entT g)) ∧ LstT H4 wl ws ∧
        g.Nodup ∧ (∀ x ∈ g, Pm.Gen n S x) ∧ List.range n ∈ g ∧ (∀ x ∈ ws, x ∈ g) ∧ 2 * (2000 - g.length) + ws.length ≤ 4000 ∧ ∀ x ∈ g, x ∈ ws ∨ ∀ s ∈ S, Pm.joint x s ∈ g)
      (fun _ H4 => match H4 d, H4 wl with
        | some (.dT kvs), some (.lst l) => 2 * (2000 - kvs.length) + l.length
        | _, _ => 0) ⟨none, none, none, [List.range n], [List.range n], rfl, s3, e3, w3, List.pairwise_singleton _ _, ?_, List.mem_cons_self, fun _ h => h, (by show 2 * (2000 - 1) + 1 ≤ 4000; decide), fun _ h => .inl h⟩ ?_ ?_
    · intro x hx
      rw [List.mem_singleton.mp hx]
      exact .one
    · rintro σ H4 ⟨t4, t5, t6, ws, g, rfl, s4, e4, w4, gn, gg, g1, wg, gm, gc⟩
      refine ⟨_, rfl, Nat.zero_le _, fun p5 np5 => ?_⟩
      have s45 := same_upd (o := .lst []) np5
      have w5 := w4.same s45
      have e5 := s45 _ _ e4
      have n5 : LstT (upd H4 p5 (.lst [])) p5 [] := ⟨[], upd_same, .nil⟩
      generalize upd H4 p5 (.lst []) = H5 at s45 w5 e5 n5 ⊢
      refine ⟨_, _, dp_lstT w5, dp_lstT n5, shaped_lstT _, shaped_lstT _, _, rfl, ?_⟩
      rw [eq_lstT]
      have s5 := s4.trans s45
      by_cases hw : ws = []
      · rw [decide_eq_true hw]
        refine iteF ?_
        have hm : ∀ x, x ∈ g ↔ Pm.Gen n S x := fun x => ⟨gg x, fun gx => by
          induction gx with
          | one => exact g1
          | step _ hs ih =>
            rcases gc _ ih with h | h
            · rw [hw] at h
              exact nomatch h
            · exact h _ hs⟩
        refine ⟨_, rfl, d, g, rfl, e5, ?_, fun t ht e => ?_, fun pr rs npr hrs => ?_⟩
        · exact Nat.le_trans (small gn gg) (by decide)
        · have := ((gg t ht).turn few.1).len
          rw [e] at this
          exact absurd this (by show ¬ 0 = n; omega)
        · exact q pr _ _ (s5.trans (same_upd npr)) ⟨rs, upd_same, tups_upd (.none npr) hrs⟩ (.of_sort gn hm)
      · rw [decide_eq_false hw]
        refine iteT ?_
        obtain ⟨ws0, x0, rfl⟩ := snoc_of hw
        obtain ⟨ws', ew, hws⟩ := id w5
        obtain ⟨qs, q0, rfl, hqs, hq0⟩ := tups_split hws
        have lqs := tups_len hqs
        have mx : x0 ∈ g := wg x0 (by simp)
        have tx := (gg x0 mx).turn few.1
        have lm : ((qs ++ [q0]).map V.ref).length = qs.length + 1 := by rw [List.length_map, List.length_append]; rfl
        refine ⟨_, rfl, .inl ⟨rfl, _, SqL.of ew⟩, wl, _, .ref q0, rfl, rfl, ew, ?_, ?_⟩
        · rw [lm, List.map_append]
          show (_ ++ [V.ref q0])[qs.length]? = _
          rw [List.getElem?_append_right (by rw [List.length_map]; exact Nat.le_refl _), List.length_map, Nat.sub_self]
          rfl
        · have ed : ((qs ++ [q0]).map V.ref).dropLast = qs.map V.ref := by
            rw [List.map_append]
            exact List.dropLast_concat
          rw [ed]
          have s6 := same_put (o := .lst (qs.map V.ref)) s5 nwl0
          have e6 : (upd H5 wl (.lst (qs.map V.ref))) d = some (.dT (entT g)) := by
            rw [upd_ne (ne_of e5 ew (by intro z; cases z))]
            exact e5
          have w6 : LstT (upd H5 wl (.lst (qs.map V.ref))) wl ws0 := ⟨qs, upd_same, tups_upd (.lst ew) hqs⟩
          have x6 : Tup (upd H5 wl (.lst (qs.map V.ref))) q0 x0 := tup_upd (.lst ew) hq0
          have m0 : (match H4 d, H4 wl with
            | some (.dT kvs), some (.lst l) => 2 * (2000 - kvs.length) + l.length
            | _, _ => 0) = 2 * (2000 - g.length) + (ws0.length + 1) := by
            obtain ⟨ws4, ew4, hws4⟩ := id w4
            have l4 := tups_len hws4
            rw [e4, ew4]
            show 2 * (2000 - (entT g).length) + (ws4.map V.ref).length = _
            rw [ent_len, List.length_map, l4, List.length_append]
            rfl
          rw [m0]
          clear m0
          generalize upd H5 wl (.lst (qs.map V.ref)) = H6 at s6 e6 w6 x6 ⊢
          refine ⟨_, rfl, a, rfl, ⟨_, SqT.of (s6 _ _ ea)⟩, ?_⟩
          refine for_tup (xs := ps.map V.ref) (fun j σ H7 => ∃ (t5 t6 : Option V) (v g2 : List (List Nat)), σ = [some (.int (n : Int)), some (.ref a), some (.ref d), some (.ref wl), some (.ref q0), t5, t6] ∧ Same H H7 ∧ H7 d = some (.dT (entT g2)) ∧ LstT H7 wl v ∧ Tup H7 q0 x0 ∧
              g2.Nodup ∧ (∀ x ∈ g2, Pm.Gen n S x) ∧ (∀ x ∈ g, x ∈ g2) ∧ (∀ x ∈ v, x ∈ g2) ∧ (∀ x ∈ g2, x ∈ v ∨ x = x0 ∨ ∀ s ∈ S, Pm.joint x s ∈ g2) ∧ (∀ s ∈ S.take j, Pm.joint x0 s ∈ g2) ∧ 2 * (2000 - g2.length) + v.length ≤ 2 * (2000 - g.length) + ws0.length)
            ⟨t5, t6, ws0, g, rfl, s6, e6, w6, x6, gn, gg, fun _ h => h, fun x hx => wg x (List.mem_append_left _ hx), fun x hx => ?_, (fun s hs => nomatch hs), Nat.le_refl _⟩ (fun j σ H7 _ z => by obtain ⟨_, _, _, _, _, s, _⟩ := z; exact SqT.of (s _ _ ea)) ?_ ?_
          · rcases gc x hx with h | h
            · rcases List.mem_append.mp h with h | h
              · exact .inl h
              · exact .inr (.inl (List.mem_singleton.mp h))
            · exact .inr (.inr h)
          · rintro j y σ H7 hy ⟨t5, t6, v, g2, rfl, s7, e7, w7, x7, hn, hg, hsub, hv, hc, hdone, hm⟩
            have hj := (List.getElem?_eq_some_iff.mp hy).1
            rw [List.length_map] at hj
            rw [refs_at hj] at hy
            cases hy
            obtain ⟨hj2, hpj⟩ := tups_at (tups_same s7 hps) j hj
            have mS : S[j] ∈ S := List.getElem_mem hj2
            have tS := few.1 _ mS
            refine ⟨_, rfl, _, rfl, q0, ps[j], x0, S[j], rfl, SqT.of x7, SqT.of hpj, by rw [tx.len]; omega, fun z hz => by rw [tS.len]; exact tx.mem.mp hz, fun p8 H8 s8 h8 => ?_⟩
            have e8 := s8 _ _ e7
            have w8 := w7.same s8
            have x8 : Tup H8 q0 x0 := s8 _ _ x7
            refine ⟨_, rfl, _, rfl, d, _, rfl, DGet.t (k := tkey (Pm.joint x0 S[j])) e8 (by rw [kV_tkey]; exact h8), _, rfl, ?_⟩
            rw [valV_ent]
            have take : ∀ {g3 : List (List Nat)}, (∀ x ∈ g2, x ∈ g3) → Pm.joint x0 S[j] ∈ g3 → ∀ s ∈ S.take (j + 1), Pm.joint x0 s ∈ g3 := fun {g3} h1 h2 s hs => by
              rw [List.take_add_one, List.getElem?_eq_getElem hj2] at hs
              rcases List.mem_append.mp hs with hs | hs
              · exact h1 _ (hdone s hs)
              · rw [List.mem_singleton.mp hs]
                exact h2
            by_cases hin : Pm.joint x0 S[j] ∈ g2
            · rw [decide_eq_true hin]
              exact iteF ⟨_, _, v, g2, rfl, s7.trans s8, e8, w8, x8, hn, hg, hsub, hv, hc, take (fun _ h => h) hin, hm⟩
            · rw [decide_eq_false hin]
              refine iteT ?_
              have lg := small hn hg
              have hg' : Pm.Gen n S (Pm.joint x0 S[j]) := .step (gg x0 mx) mS
              have hn' := Pm.inse_nd (t := Pm.joint x0 S[j]) hn
              have hg2 : ∀ x ∈ Pm.inse g2 (Pm.joint x0 S[j]), Pm.Gen n S x := fun x hx => (Pm.inse_mem.mp hx).elim (hg x) fun e => by rw [e]; exact hg'
              have lg2 := small hn' hg2
              have el : (Pm.inse g2 (Pm.joint x0 S[j])).length = g2.length + 1 := by
                unfold Pm.inse
                rw [if_neg hin, List.length_append]
                rfl
              obtain ⟨vs, ev, hvs⟩ := id w8
              have lvs := tups_len hvs
              have ndw : wl ≠ d := ne_of ev e8 (by intro z; cases z)
              have h8' : H8 p8 = some (.tup ((tkey (Pm.joint x0 S[j])).map kV)) := by rw [kV_tkey]; exact h8
              refine ⟨_, rfl, _, rfl, d, _, rfl, DPut.t (k := tkey (Pm.joint x0 S[j])) e8 h8' (by rw [ent_len]; exact Nat.lt_of_le_of_lt lg (by decide)), ?_⟩
              rw [putK_ent]
              have e9 : (upd H8 d (.dT (entT (Pm.inse g2 (Pm.joint x0 S[j]))))) d = some (.dT (entT (Pm.inse g2 (Pm.joint x0 S[j])))) := upd_same
              have s9 := same_put (o := .dT (entT (Pm.inse g2 (Pm.joint x0 S[j])))) (s7.trans s8) nd
              have ev9 : (upd H8 d (.dT (entT (Pm.inse g2 (Pm.joint x0 S[j]))))) wl = some (.lst (vs.map V.ref)) := by rw [upd_ne ndw]; exact ev
              have hvs9 : Tups (upd H8 d (.dT (entT (Pm.inse g2 (Pm.joint x0 S[j]))))) vs v := tups_upd (.dT e8) hvs
              have x9 : Tup (upd H8 d (.dT (entT (Pm.inse g2 (Pm.joint x0 S[j]))))) q0 x0 := tup_upd (.dT e8) x8
              have h9 : Tup (upd H8 d (.dT (entT (Pm.inse g2 (Pm.joint x0 S[j]))))) p8 (Pm.joint x0 S[j]) := tup_upd (.dT e8) h8
              generalize upd H8 d (.dT (entT (Pm.inse g2 (Pm.joint x0 S[j])))) = H9 at e9 s9 ev9 hvs9 x9 h9 ⊢
              have lw0 : (ws0 ++ [x0]).length = ws0.length + 1 := by rw [List.length_append]; rfl
              rw [lw0] at gm
              refine ⟨_, rfl, .inl ⟨rfl, _, SqL.of ev9⟩, _, rfl, wl, _, _, rfl, rfl, ev9, ?_, ?_⟩
              · rw [List.length_map, lvs]
                exact Nat.lt_of_le_of_lt (show _ ≤ 4000 by omega) (by decide)
              · refine ⟨_, _, v ++ [Pm.joint x0 S[j]], Pm.inse g2 (Pm.joint x0 S[j]), rfl, same_put s9 nwl0, by rw [upd_ne ndw.symm]; exact e9, LstT.add ev9 hvs9 h9, tup_upd (.lst ev9) x9, hn', hg2, fun x hx => Pm.inse_mem.mpr (.inl (hsub x hx)), ?_, ?_, take (fun x hx => Pm.inse_mem.mpr (.inl hx)) (Pm.inse_mem.mpr (.inr rfl)), ?_⟩
                · intro x hx
                  rcases List.mem_append.mp hx with hx | hx
                  · exact Pm.inse_mem.mpr (.inl (hv x hx))
                  · exact Pm.inse_mem.mpr (.inr (List.mem_singleton.mp hx))
                · intro x hx
                  rcases Pm.inse_mem.mp hx with hx | hx
                  · rcases hc x hx with h | h | h
                    · exact .inl (List.mem_append_left _ h)
                    · exact .inr (.inl h)
                    · exact .inr (.inr fun s hs => Pm.inse_mem.mpr (.inl (h s hs)))
                  · exact .inl (by rw [hx]; simp)
                · rw [el, List.length_append, List.length_singleton]
                  omega
          · rintro σ H7 ⟨t5, t6, v, g2, rfl, s7, e7, w7, x7, hn, hg, hsub, hv, hc, hdone, hm⟩
            rw [List.length_map, List.take_of_length_le (by omega)] at hdone
            refine ⟨⟨_, t5, t6, v, g2, rfl, s7, e7, w7, hn, hg, hsub _ g1, hv, ?_, fun x hx => ?_⟩, ?_⟩
            · have lw0 : (ws0 ++ [x0]).length = ws0.length + 1 := by rw [List.length_append]; rfl
              rw [lw0] at gm
              omega
            · rcases hc x hx with h | h | h
              · exact .inl h
              · rw [h]
                exact .inr hdone
              · exact .inr h
            · obtain ⟨vs, ev, hvs⟩ := w7
              have lvs := tups_len hvs
              rw [e7, ev]
              show 2 * (2000 - (entT g2).length) + (vs.map V.ref).length < _
              rw [ent_len, List.length_map, lvs]
              omega
    · rintro σ H4 Q1 Q2 hQ ⟨v, e, h0, h⟩
      exact ⟨v, e, h0, fun p np => let ⟨d1, d2, a1, a2, a3, a4, b, eb, hq⟩ := h p np; ⟨d1, d2, a1, a2, a3, a4, b, eb, hQ _ _ hq⟩⟩
end
end K42

set_option Elab.async false
set_option linter.all false
set_option maxRecDepth 100000
set_option maxHeartbeats 3200000
namespace K42
open PySem L2 Tx Tg Tm Sr
/-! ### closed sets of turns -/
structure Closed (n : Nat) (U : List (List Nat)) : Prop where
  one : List.range n ∈ U
  turn : ∀ x ∈ U, Pm.Turn n x
  mul : ∀ x ∈ U, ∀ y ∈ U, Pm.joint x y ∈ U
  ln : U.length ≤ 256
def closedB (n : Nat) (U : List (List Nat)) : Bool := decide (List.range n ∈ U) && (U.all fun x => decide (x.Perm (List.range n)) && U.all fun y => decide (Pm.joint x y ∈ U)) && decide (U.length ≤ 256)
theorem closed_of {n : Nat} {U : List (List Nat)} (h : closedB n U = true) : Closed n U := by
  unfold closedB at h
  rw [Bool.and_eq_true, Bool.and_eq_true] at h
  obtain ⟨⟨h1, h2⟩, h3⟩ := h
  have k := fun x hx => Bool.and_eq_true _ _ ▸ List.all_eq_true.mp h2 x hx
  exact ⟨of_decide_eq_true h1, fun x hx => (of_decide_eq_true (k x hx).1 : x.Perm (List.range n)), fun x hx y hy => of_decide_eq_true (List.all_eq_true.mp (k x hx).2 y hy), of_decide_eq_true h3⟩
theorem Closed.few {n : Nat} {S U : List (List Nat)} (h : Closed n U) (hS : ∀ s ∈ S, s ∈ U) : Pm.Few n S U := Pm.few_of (fun s hs => h.turn s (hS s hs)) h.one fun x hx s hs => h.mul x hx s (hS s hs)
/-- beside one another -/
def besideN (t u : List Nat) : List Nat := t ++ u.map fun p => t.length + p
def gSquare : List (List Nat) := [[0, 1, 2, 3], [1, 2, 3, 0], [2, 3, 0, 1], [3, 2, 1, 0], [1, 0, 3, 2], [0, 3, 2, 1]]
def gStair : List (List Nat) := [[1, 2, 0, 4, 5, 3, 7, 8, 6], [0, 4, 8, 3, 7, 2, 6, 1, 5], [3, 4, 5, 6, 7, 8, 0, 1, 2]]
def gBlock : List (List Nat) := [[0, 1], [1, 0]]
def gGoes : List (List Nat) := [[0, 1, 2], [1, 2, 0], [2, 0, 1]]
def gAny3 : List (List Nat) := [[1, 0, 2], [0, 2, 1], [1, 2, 0]]
def uLot : Nat → List (List Nat)
  | 1 => [[0, 1, 2, 3], [0, 3, 2, 1], [1, 0, 3, 2], [1, 2, 3, 0], [2, 1, 0, 3], [2, 3, 0, 1], [3, 0, 1, 2], [3, 2, 1, 0]]
  | 2 => [[0, 1, 2, 3, 4], [0, 1, 3, 4, 2], [0, 1, 4, 2, 3], [1, 0, 2, 3, 4], [1, 0, 3, 4, 2], [1, 0, 4, 2, 3]]
  | 3 => [[0, 1, 2, 3, 4, 5, 6, 7, 8], [0, 4, 8, 3, 7, 2, 6, 1, 5], [0, 7, 5, 3, 1, 8, 6, 4, 2], [1, 2, 0, 4, 5, 3, 7, 8, 6], [1, 5, 6, 4, 8, 0, 7, 2, 3], [1, 8, 3, 4, 2, 6, 7, 5, 0], [2, 0, 1, 5, 3, 4, 8, 6, 7], [2, 3, 7, 5, 6, 1, 8, 0, 4], [2, 6, 4, 5, 0, 7, 8, 3, 1], [3, 1, 8, 6, 4, 2, 0, 7, 5], [3, 4, 5, 6, 7, 8, 0, 1, 2], [3, 7, 2, 6, 1, 5, 0, 4, 8], [4, 2, 6, 7, 5, 0, 1, 8, 3], [4, 5, 3, 7, 8, 6, 1, 2, 0], [4, 8, 0, 7, 2, 3, 1, 5, 6], [5, 0, 7, 8, 3, 1, 2, 6, 4], [5, 3, 4, 8, 6, 7, 2, 0, 1], [5, 6, 1, 8, 0, 4, 2, 3, 7], [6, 1, 5, 0, 4, 8, 3, 7, 2], [6, 4, 2, 0, 7, 5, 3, 1, 8], [6, 7, 8, 0, 1, 2, 3, 4, 5], [7, 2, 3, 1, 5, 6, 4, 8, 0], [7, 5, 0, 1, 8, 3, 4, 2, 6], [7, 8, 6, 1, 2, 0, 4, 5, 3], [8, 0, 4, 2, 3, 7, 5, 6, 1], [8, 3, 1, 2, 6, 4, 5, 0, 7], [8, 6, 7, 2, 0, 1, 5, 3, 4]]
  | _ => [[0, 1, 2, 3, 4], [0, 1, 2, 4, 3], [0, 1, 3, 2, 4], [0, 1, 3, 4, 2], [0, 1, 4, 2, 3], [0, 1, 4, 3, 2], [1, 0, 2, 3, 4], [1, 0, 2, 4, 3], [1, 0, 3, 2, 4], [1, 0, 3, 4, 2], [1, 0, 4, 2, 3], [1, 0, 4, 3, 2]]
def nLot : Nat → Nat
  | 1 => 4
  | 3 => 9
  | _ => 5
theorem c_1 : closedB 4 (uLot 1) = true := by decide +kernel
theorem c_2 : closedB 5 (uLot 2) = true := by decide +kernel
theorem c_3 : closedB 9 (uLot 3) = true := by decide +kernel
theorem c_4 : closedB 5 (uLot 4) = true := by decide +kernel
theorem closed_lot : ∀ k : Nat, 1 ≤ k → k ≤ 4 → Closed (nLot k) (uLot k)
  | 1, _, _ => closed_of c_1
  | 2, _, _ => closed_of c_2
  | 3, _, _ => closed_of c_3
  | 4, _, _ => closed_of c_4
theorem in_1 : ∀ t ∈ gSquare, t ∈ uLot 1 := by decide +kernel
theorem in_3 : ∀ t ∈ gStair, t ∈ uLot 3 := by decide +kernel
theorem in_2 : ∀ t ∈ gBlock, ∀ u ∈ gGoes, besideN t u ∈ uLot 2 := by decide +kernel
theorem in_4 : ∀ t ∈ gBlock, ∀ u ∈ gAny3, besideN t u ∈ uLot 4 := by decide +kernel
/-! ### lists of tuples, written out -/
def tsI : List Nat → TA
  | [] => tNil
  | p :: l => tCons (tC (.int (p : Int))) (tsI l)
def tsT : List (List Nat) → TA
  | [] => tNil
  | t :: ts => tCons (tTup (tsI t)) (tsT ts)
theorem tsI_ok {σ : L2.St} {H : Hp} : ∀ (l : List Nat) (Q : List V → Hp → Prop), Q (nats l) H → tsI l σ H Q
  | [], _, q => q
  | p :: l, Q, q => tsI_ok l (fun xs H1 => Q (.int (p : Int) :: xs) H1) q
theorem tsT_ok {σ : L2.St} : ∀ (ts : List (List Nat)) (H : Hp) (Q : List V → Hp → Prop), (∀ t ∈ ts, t.length ≤ 100) → (∀ ps H', Same H H' → Tups H' ps ts → Q (ps.map V.ref) H') → tsT ts σ H Q
  | [], H, Q, _, q => q [] H (Same.refl H) .nil
  | t :: ts, H, Q, hl, q => by
    refine tsI_ok t _ ⟨?_, fun p np => ?_⟩
    · rw [List.length_map]
      exact Nat.le_trans (hl t List.mem_cons_self) (by decide)
    · refine tsT_ok ts _ _ (fun u hu => hl u (List.mem_cons_of_mem _ hu)) fun ps H' s h => ?_
      have e : upd H p (.tup (nats t)) p = some (.tup (nats t)) := upd_same
      exact q (p :: ps) H' ((same_upd np).trans s) (.cons (s _ _ e) h)
theorem lst_ok {σ : L2.St} {H : Hp} {Q : VK} (ts : List (List Nat)) (h5 : ts.length ≤ 100) (hl : ∀ t ∈ ts, t.length ≤ 100) (q : ∀ p H', Same H H' → H p = none → LstT H' p ts → Q (.ref p) H') : tLst (tsT ts) σ H Q := by
  refine tsT_ok ts H _ hl fun ps H1 s1 h1 => ⟨?_, fun p np => ?_⟩
  · rw [List.length_map, tups_len h1]
    exact Nat.le_trans h5 (by decide)
  · exact q p _ (s1.trans (same_upd np)) (free_none s1 np) ⟨ps, upd_same, tups_upd (.none np) h1⟩
theorem Cup.noT {H : Hp} {c : Addr} (h : Cup H c) : NoT H c := let ⟨_, _, _, e⟩ := h; .lst e
theorem pick_ok {K : PySem.W.Frag} {σ : L2.St} {H : Hp} {Q : VK} {c : Addr} (ts : List (List Nat)) (hc : Cup H c) (hσ : σ[0]? = some (some (.ref c))) (h0 : 0 < ts.length) (h5 : ts.length ≤ 100) (hl : ∀ t ∈ ts, t.length ≤ 100)
    (q : ∀ t ∈ ts, ∀ p H', Cup H' c → But c H H' → Tup H' p t → Q (.ref p) H') : tCall (spPick K) [] E0 (tCons (tVar 0) (tCons (tLst (tsT ts)) tNil)) σ H Q := by
  refine ⟨_, hσ, lst_ok ts h5 hl fun p H1 s1 np ⟨ps, e, ht⟩ => ?_⟩
  have lps := tups_len ht
  have hc1 := hc.same s1
  refine ⟨c, p, ps.map V.ref, rfl, hc1, hc.ne np, .inl (SqL.of e), by rw [List.length_map, lps]; exact h0, by rw [List.length_map, lps]; omega, fun i hi H2 hc2 b2 => ?_⟩
  have hi2 : i < ps.length := by rw [List.length_map] at hi; exact hi
  obtain ⟨hj, hti⟩ := tups_at ht i hi2
  have ev : (ps.map V.ref)[i] = .ref ps[i] := List.getElem_map ..
  rw [ev]
  exact q ts[i] (List.getElem_mem hj) ps[i] H2 hc2 ((But.of s1).trans b2) (tup_but hc1.noT b2 hti)
/-- the letters' turns in a dict -/
def MovesAt (H : Hp) (d : Addr) (z : Str) (U : List (List Nat)) : Prop := ∃ kvs : List (Key × V), H d = some (.dK kvs) ∧ ∀ c ∈ cds z, ∃ p t, valV kvs (Sum.inr (one c)) = some (.ref p) ∧ Tup H p t ∧ t ∈ U
def for_text {x : Str} {g : TG} {tb : TS} {D : Ends} {σ : L2.St} {H : Hp} (Pv : Nat → L2.St → Hp → Prop) (h0 : Pv 0 σ H)
    (hs : ∀ i c σ H, (cds x)[i]? = some c → Pv i σ H → g (.str (one c)) σ H fun σ2 H2 => tb { D with nx := Pv (i + 1), ct := Pv (i + 1), bk := D.nx } σ2 H2) (hd : ∀ σ H, Pv (cds x).length σ H → D.nx σ H) :
    ∃ W : Nat → Nat → L2.St → Hp → Prop, (∃ m, W 0 m σ H) ∧ ∀ i m σ H, W i m σ H →
      ((Its x).stop i H ∧ D.nx σ H) ∨ ((Its x).go i H ∧ ∃ N : L2.St → Hp → Prop, (∀ σ' H', N σ' H' → ∃ m', m' < m ∧ W (i + 1) m' σ' H') ∧ ∀ v H', (Its x).yld i H v H' → g v σ H' fun σ2 H2 => tb { D with nx := N, ct := N, bk := D.nx } σ2 H2) := by
  have hz : x.cps.size = (cds x).length := (Array.length_toList).symm
  refine ⟨fun i m σ H => m = (cds x).length - i ∧ i ≤ (cds x).length ∧ Pv i σ H, ⟨(cds x).length, by simp, Nat.zero_le _, h0⟩, ?_⟩
  rintro i m σ H ⟨rfl, hi, p⟩
  by_cases hlt : i < (cds x).length
  · refine .inr ⟨by show i < x.cps.size; omega, Pv (i + 1), fun σ' H' p' => ⟨(cds x).length - (i + 1), by omega, rfl, hlt, p'⟩, ?_⟩
    rintro v H' ⟨e, c, hc, e2⟩
    subst e
    subst e2
    exact hs i c _ _ (by rw [Array.getElem?_toList]; exact hc) p
  · have e : i = (cds x).length := by omega
    subst e
    exact .inl ⟨by show x.cps.size ≤ _; omega, hd _ H p⟩
theorem one_inj {a b : Nat} (h : one a = one b) : a = b := by
  have := congrArg (fun z : Str => z.cps.toList) h
  have h2 : [a] = [b] := this
  injection h2
section
variable {P : Program} {w : World} {K : PySem.W.Frag} {mg : Str → Option Value} {base : Heap}
def spBeside : Sp := fun vs H Q _ => ∃ (a b : Addr) (t u : List Nat), vs = [.ref a, .ref b] ∧ Tup H a t ∧ Tup H b u ∧ t ≠ [] ∧ u ≠ [] ∧ t.length ≤ 100 ∧ u.length ≤ 100 ∧ ∀ p H', Same H H' → Tup H' p (besideN t u) → Q (.ref p) H'
abbrev nBes : List Str := ["_law_one", "_law_other", "_law_spot"]
theorem scBes : FnScope nBes ["_law_one", "_law_other"] (defScope sBeside) := ⟨rfl, rfl, rfl, by decide +kernel, rfl, by decide +kernel, by decide +kernel⟩
theorem ok_beside {f : Addr} {fd : FuncData} (F : Fun K "_law_beside_turns" "_law_beside_turns" sBeside f fd) (T : Txt K mg) : FnOk P w K mg base CX0 1 f fd ["_law_one", "_law_other"] spBeside := by
  refine F.ok scBes (fun vs H Q E h => ?_) (fun cdv A outer s H vs Q E hr h => ?_)
  · obtain ⟨a, b, t, u, rfl, _⟩ := h
    rfl
  · obtain ⟨a, b, t, u, rfl, ha, hb, nt, nu, lt, lu, q⟩ := h
    refine ⟨_, pss_one (ps_ret (pe_op op_catT (pv 0) (pe_callTy call_tuple_of (by rfl) T.tuple (by decide +kernel) (pa_cons (pe_lc (own := [("_law_spot", 2)]) (g := gName 2) (tt := tYes)
      (te := tOp (rI0 fun i j => .int (i + j)) (tCB (fun xs H Q => ∃ p ys, xs = [.ref p] ∧ (SqL K H p ys ∨ SqT K H p ys) ∧ Q (.int ys.length) H) (tCons (tVar 0) tNil)) (tVar 2)) rfl scBes.nd (pi_tup (pv 1))
      (blkOk_by (own := [("_law_spot", 2)]) (N := nBes) (sc := defScope sBeside) (by decide +kernel))
      (fun _ _ _ _ _ => pg_name (i := 2) scBes.nd rfl (Or.inl rfl)) (fun _ _ _ _ _ => pts_nil)
      (fun _ _ _ _ _ => pe_op op_add (pe_callB call_len_seq (by rfl) T.len PySem.boot_len (pa_cons (pv 0) pa_nil)) (pv 2))) pa_nil)))), ?_⟩
    refine ⟨_, rfl, _, rfl, b, rfl, ⟨_, SqT.of hb⟩, fun D hD => ?_⟩
    refine lc_tup (xs := nats u) (fun i H1 => Same H H1 ∧ H1 D = some (.lst (nats ((u.take i).map fun p => t.length + p)))) ⟨same_upd hD, upd_same⟩ (fun i H1 _ z => SqT.of (z.1 _ _ hb)) ?_ ?_
    · rintro i x H1 hx ⟨s1, e1⟩
      have hi := (List.getElem?_eq_some_iff.mp hx).1
      have hi' : i < u.length := by rw [List.length_map] at hi; exact hi
      rw [nats_at hi'] at hx
      cases hx
      refine ⟨rfl, iteT (B := False) ?_⟩
      refine ⟨_, rfl, a, _, rfl, .inr (SqT.of (s1 _ _ ha)), _, rfl, _, _, rfl, rfl, ?_⟩
      refine ⟨_, e1, ?_, same_put s1 hD, ?_⟩
      · rw [List.length_map, List.length_map, List.length_take]
        exact Nat.lt_of_le_of_lt (show _ ≤ 100 by omega) (by decide)
      · rw [upd_same, List.take_add_one, List.getElem?_eq_getElem hi', List.length_map]
        show some (HO.lst (_ ++ [V.int (((t.length : Nat) : Int) + ((u[i] : Nat) : Int))])) = some (HO.lst (nats ((u.take i ++ [u[i]]).map fun p => t.length + p)))
        rw [List.map_append]
        show _ = some (HO.lst (List.map _ (_ ++ _)))
        rw [List.map_append]
        rfl
    · rintro H1 ⟨s1, e1⟩
      rw [List.take_of_length_le (by rw [List.length_map]; exact Nat.le_refl _)] at e1
      refine ⟨D, _, rfl, .inl ⟨SqL.of e1, fun p np => ?_⟩⟩
      have s2 := s1.trans (same_upd (o := .tup (nats (u.map fun p => t.length + p))) np)
      refine ⟨a, p, nats t, _, rfl, rfl, SqT.of (s2 _ _ ha), SqT.of upd_same, fun e => nt (List.map_eq_nil_iff.mp e), ?_, fun e => absurd (List.map_eq_nil_iff.mp (List.map_eq_nil_iff.mp e)) nu, fun _ r nr => ?_⟩
      · rw [List.length_map, List.length_map, List.length_map]
        exact Nat.le_trans (show _ ≤ 200 by omega) (by decide)
      · refine q r _ (s2.trans (same_upd nr)) ?_
        show upd _ r _ r = some (.tup (nats (t ++ _)))
        rw [upd_same, ← List.map_append]
abbrev nBlock : List Str := ["_law_cup_here", "_law_signs", "_law_lot", "_law_found", "_law_sign", "_law_square", "_law_stair", "_law_block", "_law_goes", "_law_any_three", "_law_kinds_there"]
def spBlock : Sp := fun vs H Q _ => ∃ (c : Addr) (z : Str) (k : Nat), vs = [.ref c, .str z, .int (k : Int)] ∧ Cup H c ∧ 1 ≤ k ∧ k ≤ 4 ∧ (cds z).length ≤ 100 ∧ ∀ d H', Cup H' c → But c H H' → MovesAt H' d z (uLot k) → Q (.ref d) H'
theorem scBlock : FnScope nBlock ["_law_cup_here", "_law_signs", "_law_lot"] (defScope sBlock) := ⟨rfl, rfl, rfl, by decide +kernel, rfl, by decide +kernel, by decide +kernel⟩
theorem lens_of : (∀ t ∈ gSquare, t.length ≤ 100) ∧ (∀ t ∈ gStair, t.length ≤ 100) ∧ (∀ t ∈ gBlock, t.length ≤ 100 ∧ t ≠ []) ∧ (∀ t ∈ gGoes, t.length ≤ 100 ∧ t ≠ []) ∧ ∀ t ∈ gAny3, t.length ≤ 100 ∧ t ≠ [] := by decide +kernel
theorem ok_block {f fP fB : Addr} {fd dP dB : FuncData} (F : Fun K "_law_block_moves" "_law_block_moves" sBlock f fd) (T : Txt K mg) (DP : Df K mg "_law_pick" sPick ["_law_cup_here", "_law_items"] fP dP) (DB : Df K mg "_law_beside_turns" sBeside ["_law_one", "_law_other"] fB dB)
    (GP : FnOk P w K mg base CX0 2 fP dP ["_law_cup_here", "_law_items"] (spPick K)) : FnOk P w K mg base CX0 3 f fd ["_law_cup_here", "_law_signs", "_law_lot"] spBlock := by
  have GB := ok_beside (P := P) (w := w) (base := base) DB.F T
  refine F.ok scBlock (fun vs H Q E h => ?_) (fun cdv A outer s H vs Q E hr h => ?_)
  · obtain ⟨c, z, k, rfl, _⟩ := h
    rfl
  · obtain ⟨c, z, k, rfl, hc, k1, k4, hz, q⟩ := h
    have hu := hu_of hr
    have r1 : Room 1 _ := hr.mono (by decide)
    refine ⟨_, pss_cons (ps_set (i := 3) scBlock.nd rfl (Or.inl rfl) pe_dnewK)
      (pss_cons (ps_for PassesOwn.never rfl (pi_str (pv 1)) (pg_name (i := 4) scBlock.nd rfl (Or.inl rfl))
          (pss_cons (ps_set (i := 5) scBlock.nd rfl (Or.inl rfl) (pe_call GP hr (by rfl) DP.m DP.F.kp DP.b .nil pass0 (pa_cons (pv 0) (pa_cons (pe_lst (pa_cons (pe_tup (pa_cons pe_int (pa_cons pe_int (pa_cons pe_int (pa_cons pe_int pa_nil))))) (pa_cons (pe_tup (pa_cons pe_int (pa_cons pe_int (pa_cons pe_int (pa_cons pe_int pa_nil))))) (pa_cons (pe_tup (pa_cons pe_int (pa_cons pe_int (pa_cons pe_int (pa_cons pe_int pa_nil))))) (pa_cons (pe_tup (pa_cons pe_int (pa_cons pe_int (pa_cons pe_int (pa_cons pe_int pa_nil))))) (pa_cons (pe_tup (pa_cons pe_int (pa_cons pe_int (pa_cons pe_int (pa_cons pe_int pa_nil))))) (pa_cons (pe_tup (pa_cons pe_int (pa_cons pe_int (pa_cons pe_int (pa_cons pe_int pa_nil))))) pa_nil))))))) pa_nil))))
          (pss_cons (ps_set (i := 6) scBlock.nd rfl (Or.inl rfl) (pe_call GP hr (by rfl) DP.m DP.F.kp DP.b .nil pass0 (pa_cons (pv 0) (pa_cons (pe_lst (pa_cons (pe_tup (pa_cons pe_int (pa_cons pe_int (pa_cons pe_int (pa_cons pe_int (pa_cons pe_int (pa_cons pe_int (pa_cons pe_int (pa_cons pe_int (pa_cons pe_int pa_nil)))))))))) (pa_cons (pe_tup (pa_cons pe_int (pa_cons pe_int (pa_cons pe_int (pa_cons pe_int (pa_cons pe_int (pa_cons pe_int (pa_cons pe_int (pa_cons pe_int (pa_cons pe_int pa_nil)))))))))) (pa_cons (pe_tup (pa_cons pe_int (pa_cons pe_int (pa_cons pe_int (pa_cons pe_int (pa_cons pe_int (pa_cons pe_int (pa_cons pe_int (pa_cons pe_int (pa_cons pe_int pa_nil)))))))))) pa_nil)))) pa_nil))))
          (pss_cons (ps_par (i := 7) (j := 8) (by rfl) scBlock.nd rfl rfl (by decide) rfl rfl (pa_cons (pe_call GP hr (by rfl) DP.m DP.F.kp DP.b .nil pass0 (pa_cons (pv 0) (pa_cons (pe_lst (pa_cons (pe_tup (pa_cons pe_int (pa_cons pe_int pa_nil))) (pa_cons (pe_tup (pa_cons pe_int (pa_cons pe_int pa_nil))) pa_nil))) pa_nil))) (pa_cons (pe_call GP hr (by rfl) DP.m DP.F.kp DP.b .nil pass0 (pa_cons (pv 0) (pa_cons (pe_lst (pa_cons (pe_tup (pa_cons pe_int (pa_cons pe_int (pa_cons pe_int pa_nil)))) (pa_cons (pe_tup (pa_cons pe_int (pa_cons pe_int (pa_cons pe_int pa_nil)))) (pa_cons (pe_tup (pa_cons pe_int (pa_cons pe_int (pa_cons pe_int pa_nil)))) pa_nil)))) pa_nil))) pa_nil)) (by rfl))
          (pss_cons (ps_set (i := 9) scBlock.nd rfl (Or.inl rfl) (pe_call GP hr (by rfl) DP.m DP.F.kp DP.b .nil pass0 (pa_cons (pv 0) (pa_cons (pe_lst (pa_cons (pe_tup (pa_cons pe_int (pa_cons pe_int (pa_cons pe_int pa_nil)))) (pa_cons (pe_tup (pa_cons pe_int (pa_cons pe_int (pa_cons pe_int pa_nil)))) (pa_cons (pe_tup (pa_cons pe_int (pa_cons pe_int (pa_cons pe_int pa_nil)))) pa_nil)))) pa_nil))))
          (pss_cons (ps_set (i := 10) scBlock.nd rfl (Or.inl rfl) (pe_lst (pa_cons (pv 5) (pa_cons (pe_call GB r1 (by rfl) DB.m DB.F.kp DB.b .nil pass0 (pa_cons (pv 7) (pa_cons (pv 8) pa_nil))) (pa_cons (pv 6) (pa_cons (pe_call GB r1 (by rfl) DB.m DB.F.kp DB.b .nil pass0 (pa_cons (pv 7) (pa_cons (pv 9) pa_nil))) pa_nil))))))
          (pss_one (ps_dput hu (pv 3) (pv 4) (pe_ix ix_list (pv 10) (pe_op op_sub (pv 2) pe_int) (fun _ _ => rfl)) rfl))))))))
      (pss_one (ps_ret (pv 3)))), ?_⟩
    intro d nd
    have ndc : d ≠ c := hc.ne nd
    refine ⟨_, rfl, z, rfl, ?_⟩
    refine for_text (fun i σ H1 => ∃ (t4 t5 t6 t7 t8 t9 t10 : Option V) (kvs : List (Key × V)), σ = [some (.ref c), some (.str z), some (.int (k : Int)), some (.ref d), t4, t5, t6, t7, t8, t9, t10] ∧ Cup H1 c ∧ But c H H1 ∧ H1 d = some (.dK kvs) ∧ kvs.length ≤ i ∧
        ∀ x ∈ (cds z).take i, ∃ p t, valV kvs (Sum.inr (one x)) = some (.ref p) ∧ Tup H1 p t ∧ t ∈ uLot k)
      ⟨none, none, none, none, none, none, none, [], rfl, hc.same (same_upd nd), But.of (same_upd nd), upd_same, Nat.le_refl _, fun x hx => nomatch hx⟩ ?_ ?_
    · rintro i x σ H1 hx ⟨t4, t5, t6, t7, t8, t9, t10, kvs, rfl, hc1, b1, e1, lk, hkv⟩
      obtain ⟨l1, l3, lB, lG, lA⟩ := lens_of
      have hi := (List.getElem?_eq_some_iff.mp hx).1
      refine pick_ok gSquare hc1 rfl (by decide) (by decide) l1 fun a1 m1 p1 H2 hc2 b2 h1 => ?_
      refine pick_ok gStair hc2 rfl (by decide) (by decide) l3 fun a3 m3 p3 H3 hc3 b3 h3 => ?_
      refine pick_ok gBlock hc3 rfl (by decide) (by decide) (fun t ht => (lB t ht).1) fun aB mB pB H4 hc4 b4 hB => ?_
      refine pick_ok gGoes hc4 rfl (by decide) (by decide) (fun t ht => (lG t ht).1) fun aG mG pG H5 hc5 b5 hG => ?_
      refine ⟨_, _, rfl, ?_⟩
      refine pick_ok gAny3 hc5 rfl (by decide) (by decide) (fun t ht => (lA t ht).1) fun aA mA pA H6 hc6 b6 hA => ?_
      have b26 := ((b3.trans b4).trans b5).trans b6
      have h1' := tup_but hc2.noT b26 h1
      have h3' := tup_but hc3.noT ((b4.trans b5).trans b6) h3
      have hB' := tup_but hc4.noT (b5.trans b6) hB
      have hG' := tup_but hc5.noT b6 hG
      have b16 := b2.trans b26
      refine ⟨_, rfl, _, rfl, _, rfl, pB, pG, aB, aG, rfl, hB', hG', (lB _ mB).2, (lG _ mG).2, (lB _ mB).1, (lG _ mG).1, fun p2 H7 s7 h2 => ?_⟩
      refine ⟨_, rfl, _, rfl, _, rfl, pB, pA, aB, aA, rfl, s7 _ _ hB', s7 _ _ hA, (lB _ mB).2, (lA _ mA).2, (lB _ mB).1, (lA _ mA).1, fun p4 H8 s8 h4 => ?_⟩
      refine ⟨(by show 4 ≤ sizeLine; decide), fun L nL => ?_⟩
      have sL := same_upd (o := .lst [V.ref p1, V.ref p2, V.ref p3, V.ref p4]) nL
      have eL : (upd H8 L (.lst [V.ref p1, V.ref p2, V.ref p3, V.ref p4])) L = some (.lst [V.ref p1, V.ref p2, V.ref p3, V.ref p4]) := upd_same
      have s68 := (s7.trans s8).trans sL
      have q1 : Tup _ p1 a1 := s68 _ _ h1'
      have q2 : Tup _ p2 (besideN aB aG) := (s8.trans sL) _ _ h2
      have q3 : Tup _ p3 a3 := s68 _ _ h3'
      have q4 : Tup _ p4 (besideN aB aA) := sL _ _ h4
      have b19 := b16.trans (But.of s68)
      have hc9 := hc6.same s68
      generalize upd H8 L (.lst [V.ref p1, V.ref p2, V.ref p3, V.ref p4]) = H9 at eL q1 q2 q3 q4 b19 hc9 ⊢
      have e9 := b19 _ _ ndc e1
      have fin : ∀ (p : Addr) (t : List Nat), Tup H9 p t → t ∈ uLot k → ∃ H10, DPut H9 d (.str (one x)) (.ref p) H10 ∧ ∃ (t4 t5 t6 t7 t8 t9 t10 : Option V) (kvs : List (Key × V)), [some (V.ref c), some (V.str z), some (V.int (k : Int)), some (V.ref d), some (V.str (one x)), some (V.ref p1), some (V.ref p3), some (V.ref pB), some (V.ref pG), some (V.ref pA), some (V.ref L)] = [some (.ref c), some (.str z), some (.int (k : Int)), some (.ref d), t4, t5, t6, t7, t8, t9, t10] ∧ Cup H10 c ∧ But c H H10 ∧ H10 d = some (.dK kvs) ∧ kvs.length ≤ i + 1 ∧
        ∀ x ∈ (cds z).take (i + 1), ∃ p t, valV kvs (Sum.inr (one x)) = some (.ref p) ∧ Tup H10 p t ∧ t ∈ uLot k := by
        intro p t hp ht
        refine ⟨_, DPut.k (k := (Sum.inr (one x) : Key)) e9 (Nat.lt_of_le_of_lt (show _ ≤ 100 by omega) (by decide)), _, _, _, _, _, _, _, putK kvs (Sum.inr (one x) : Key) (.ref p), rfl, ?_, ?_, upd_same, ?_, ?_⟩
        · obtain ⟨c0, c1, c2, ec⟩ := hc9
          exact ⟨c0, c1, c2, by rw [upd_ne ndc.symm]; exact ec⟩
        · intro b o nb eb
          rw [upd_ne (ne_of_none eb nd)]
          exact b19 _ _ nb (b1 _ _ nb eb)
        · have := length_putK kvs (Sum.inr (one x) : Key) (.ref p)
          omega
        · intro y hy
          have hd : NoT H9 d := fun xs e => by rw [e9] at e; cases e
          rw [valV_put]
          by_cases hyx : y = x
          · rw [if_pos (by rw [hyx])]
            exact ⟨p, t, rfl, tup_upd hd hp, ht⟩
          · rw [if_neg fun e => hyx (one_inj (by injection e))]
            rw [List.take_add_one, hx] at hy
            rcases List.mem_append.mp hy with hy | hy
            · obtain ⟨p', t', e', h', m'⟩ := hkv y hy
              exact ⟨p', t', e', tup_upd hd (tup_but hc1.noT b19 h'), m'⟩
            · exact absurd (List.mem_singleton.mp hy) hyx
      have lots : k = 1 ∨ k = 2 ∨ k = 3 ∨ k = 4 := by omega
      refine ⟨_, rfl, _, rfl, _, _, rfl, rfl, ?_⟩
      rcases lots with rfl | rfl | rfl | rfl
      · obtain ⟨H10, g, r⟩ := fin p1 a1 q1 (in_1 _ m1)
        exact ⟨L, _, 0, .ref p1, rfl, rfl, SqL.of eL, rfl, _, rfl, _, rfl, d, H10, rfl, g, r⟩
      · obtain ⟨H10, g, r⟩ := fin p2 _ q2 (in_2 _ mB _ mG)
        exact ⟨L, _, 1, .ref p2, rfl, rfl, SqL.of eL, rfl, _, rfl, _, rfl, d, H10, rfl, g, r⟩
      · obtain ⟨H10, g, r⟩ := fin p3 a3 q3 (in_3 _ m3)
        exact ⟨L, _, 2, .ref p3, rfl, rfl, SqL.of eL, rfl, _, rfl, _, rfl, d, H10, rfl, g, r⟩
      · obtain ⟨H10, g, r⟩ := fin p4 _ q4 (in_4 _ mB _ mA)
        exact ⟨L, _, 3, .ref p4, rfl, rfl, SqL.of eL, rfl, _, rfl, _, rfl, d, H10, rfl, g, r⟩
    · rintro σ H1 ⟨t4, t5, t6, t7, t8, t9, t10, kvs, rfl, hc1, b1, e1, lk, hkv⟩
      rw [List.take_of_length_le (Nat.le_refl _)] at hkv
      exact ⟨_, rfl, q d H1 hc1 b1 ⟨kvs, e1, hkv⟩⟩
end
end K42

set_option Elab.async false
set_option linter.all false
set_option maxRecDepth 100000
set_option maxHeartbeats 3200000
namespace K42
open PySem L2 Tx Tg Tm Sr
/-! ### all turns of few points, and rotations -/
def tuples (n : Nat) : Nat → List (List Nat)
  | 0 => [[]]
  | k + 1 => (tuples n k).flatMap fun l => (List.range n).map fun p => p :: l
theorem mem_tuples {n : Nat} : ∀ (l : List Nat), (∀ p ∈ l, p < n) → l ∈ tuples n l.length
  | [], _ => List.mem_singleton.mpr rfl
  | p :: l, h => List.mem_flatMap.mpr ⟨l, mem_tuples l (fun q hq => h q (List.mem_cons_of_mem _ hq)), List.mem_map.mpr ⟨p, List.mem_range.mpr (h p List.mem_cons_self), rfl⟩⟩
def allT (n : Nat) : List (List Nat) := (tuples n n).filter fun t => decide (t.Perm (List.range n))
theorem mem_allT {n : Nat} {t : List Nat} : t ∈ allT n ↔ Pm.Turn n t := by
  unfold allT
  rw [List.mem_filter, decide_eq_true_iff]
  refine ⟨fun h => h.2, fun h => ⟨?_, h⟩⟩
  have := mem_tuples (n := n) t fun p hp => h.mem.mp hp
  rw [h.len] at this
  exact this
theorem small_tuples : ∀ n, n ≤ 4 → (tuples n n).length ≤ 256 := by decide +kernel
theorem closed_allT {n : Nat} (h : n ≤ 4) : Closed n (allT n) where
  one := mem_allT.mpr Pm.still_turn
  turn := fun x hx => mem_allT.mp hx
  mul := fun x hx y hy => mem_allT.mpr (Pm.turn_joint (mem_allT.mp hx) (mem_allT.mp hy))
  ln := Nat.le_trans (List.length_filter_le _ _) (small_tuples n h)
def rot (n m : Nat) : List Nat := (List.range n).map fun p => (p + m) % n
def rots (n : Nat) : List (List Nat) := (List.range n).map (rot n)
theorem c_rots : ∀ n, n ≤ 12 → 1 ≤ n → closedB n (rots n) = true := by decide +kernel
theorem mem_rots {n m : Nat} (h : m < n) : rot n m ∈ rots n := List.mem_map.mpr ⟨m, List.mem_range.mpr h, rfl⟩
/-! ### dict of pairs -/
theorem val_merge {G : V → Prop} (k : Key) : ∀ (kvs acc : List (Key × V)), (∀ kv ∈ kvs, G kv.2) → ((∃ v, valV acc k = some v ∧ G v) ∨ k ∈ kvs.map fun kv => kv.1) → ∃ v, valV (mergeK acc kvs) k = some v ∧ G v
  | [], acc, _, h => by
    rcases h with h | h
    · exact h
    · exact nomatch h
  | kv :: kvs, acc, hG, h => by
    show ∃ v, valV (mergeK (putK acc kv.1 kv.2) kvs) k = some v ∧ G v
    refine val_merge k kvs _ (fun x hx => hG x (List.mem_cons_of_mem _ hx)) ?_
    by_cases e : k = kv.1
    · exact .inl ⟨kv.2, by rw [valV_put, if_pos e], hG kv List.mem_cons_self⟩
    · rcases h with ⟨v, h1, h2⟩ | h
      · exact .inl ⟨v, by rw [valV_put, if_neg e]; exact h1, h2⟩
      · rcases List.mem_cons.mp h with h | h
        · exact absurd h e
        · exact .inr h
/-- pairs (letter, turn) -/
def PairsC (H : Hp) (qs : List Addr) (kvs : List (Key × V)) : Prop := Paired (fun q kv => H q = some (.tup [kV kv.1, kv.2])) qs kvs
theorem tupO_upd {H : Hp} {a q : Addr} {xs : List V} {o : HO} (n : NoT H a) (h : H q = some (.tup xs)) : upd H a o q = some (.tup xs) := by
  rw [upd_ne fun z => n xs (by rw [← z]; exact h)]
  exact h
theorem tupO_but {H H' : Hp} {c q : Addr} {xs : List V} (n : NoT H c) (b : But c H H') (h : H q = some (.tup xs)) : H' q = some (.tup xs) := b _ _ (fun z => n xs (by rw [← z]; exact h)) h
theorem paired_mono {α β : Type} {R R' : α → β → Prop} (h : ∀ a b, R a b → R' a b) : ∀ {as : List α} {bs : List β}, Paired R as bs → Paired R' as bs
  | _, _, .nil => .nil
  | _, _, .cons r t => .cons (h _ _ r) (paired_mono h t)
theorem paired_snoc {α β : Type} {R : α → β → Prop} : ∀ {as : List α} {bs : List β} {a : α} {b : β}, Paired R as bs → R a b → Paired R (as ++ [a]) (bs ++ [b])
  | _, _, _, _, .nil, r => .cons r .nil
  | _, _, _, _, .cons r t, q => .cons r (paired_snoc t q)
end K42

set_option Elab.async false
set_option linter.all false
set_option maxRecDepth 100000
set_option maxHeartbeats 3200000
namespace K42
open PySem L2 Tx Tg Tm Sr
theorem lc_text {x : Str} {g : TG} {tt : TT} {te : TE} {vs : List Nat} {σ : L2.St} {H1 : Hp} {D : Addr} {Qd : Hp → Prop} (Pv : Nat → Hp → Prop) (h0 : Pv 0 (upd H1 D (.lst [])))
    (hs : ∀ i c H, (cds x)[i]? = some c → Pv i H → g (.str (one c)) (wipe σ vs) H fun σ2 H2 => wipe σ2 vs = wipe σ vs ∧ tt σ2 H2 fun b H3 =>
      if b = true then te σ2 H3 fun y H4 => ∃ acc, H4 D = some (.lst acc) ∧ acc.length < sizeLine ∧ Pv (i + 1) (upd H4 D (.lst (acc ++ [y]))) else Pv (i + 1) H3) (hd : ∀ H, Pv (cds x).length H → Qd H) :
    ∃ W : Nat → Nat → Hp → Prop, (∃ m, W 0 m (upd H1 D (.lst []))) ∧ ∀ i m H, W i m H →
      ((Its x).stop i H ∧ Qd H) ∨ ((Its x).go i H ∧ ∃ Nx : Hp → Prop, (∀ H', Nx H' → ∃ m', m' < m ∧ W (i + 1) m' H') ∧ ∀ v H', (Its x).yld i H v H' → g v (wipe σ vs) H' fun σ2 H2 => wipe σ2 vs = wipe σ vs ∧ tt σ2 H2 fun b H3 =>
        if b = true then te σ2 H3 fun y H4 => ∃ acc, H4 D = some (.lst acc) ∧ acc.length < sizeLine ∧ Nx (upd H4 D (.lst (acc ++ [y]))) else Nx H3) := by
  have hz : x.cps.size = (cds x).length := (Array.length_toList).symm
  refine ⟨fun i m H => m = (cds x).length - i ∧ i ≤ (cds x).length ∧ Pv i H, ⟨(cds x).length, by simp, Nat.zero_le _, h0⟩, ?_⟩
  rintro i m H ⟨rfl, hi, p⟩
  by_cases hlt : i < (cds x).length
  · refine .inr ⟨by show i < x.cps.size; omega, Pv (i + 1), fun H' p' => ⟨(cds x).length - (i + 1), by omega, rfl, hlt, p'⟩, ?_⟩
    rintro v H' ⟨e, c, hc, e2⟩
    subst e
    subst e2
    exact hs i c _ (by rw [Array.getElem?_toList]; exact hc) p
  · have e : i = (cds x).length := by omega
    subst e
    exact .inl ⟨by show x.cps.size ≤ _; omega, hd H p⟩
theorem or_eq {σ : L2.St} {H : Hp} {D : Bool → Hp → Prop} {i : Nat} {m a b : Int} (hσ : σ[i]? = some (some (.int m))) (q : D (decide (m = a ∨ m = b)) H) :
    tOr (tTest (tOp rEq (tVar i) (tC (.int a)))) (tTest (tOp rEq (tVar i) (tC (.int b)))) σ H D := by
  refine ⟨_, hσ, rfl, _, rfl, ?_⟩
  by_cases h1 : m = a
  · rw [decide_eq_true (congrArg V.int h1)]
    rw [decide_eq_true (.inl h1)] at q
    exact iteT q
  · rw [decide_eq_false (fun e => h1 (by injection e))]
    refine iteF ⟨_, hσ, rfl, _, rfl, ?_⟩
    by_cases h2 : m = b
    · rw [decide_eq_true (.inr h2)] at q
      rw [decide_eq_true (congrArg V.int h2)]
      exact q
    · rw [decide_eq_false (fun e => e.elim h1 h2)] at q
      rw [decide_eq_false (fun e => h2 (by injection e))]
      exact q
section
variable {P : Program} {w : World} {K : PySem.W.Frag} {mg : Str → Option Value} {base : Heap}
abbrev nMoves : List Str := ["_law_cup_here", "_law_signs", "_law_lot", "_law_points", "_law_sign", "_law_found", "_law_much", "_law_spot"]
def spMoves : Sp := fun vs H Q _ => ∃ (c : Addr) (z : Str), vs = [.ref c, .str z] ∧ Cup H c ∧ (cds z).length ≤ 100 ∧ ∀ d n U H', Cup H' c → But c H H' → MovesAt H' d z U → Closed n U → 1 ≤ n → n ≤ 12 → Q (.ref d) H'
theorem scMoves : FnScope nMoves ["_law_cup_here", "_law_signs"] (defScope sMoves) := ⟨rfl, rfl, rfl, by decide +kernel, rfl, by decide +kernel, by decide +kernel⟩
theorem ok_moves {f fA fB fBl : Addr} {fd dA dB dBl : FuncData} (F : Fun K "_law_moves" "_law_moves" sMoves f fd) (T : Txt K mg) (DA : Df K mg "_law_any_turn" sAny ["_law_cup_here", "_law_points"] fA dA) (DB : Df K mg "_law_bit" sBit ["_law_cup_here", "_law_much"] fB dB)
    (DBl : Df K mg "_law_block_moves" sBlock ["_law_cup_here", "_law_signs", "_law_lot"] fBl dBl) (GA : FnOk P w K mg base CX0 3 fA dA ["_law_cup_here", "_law_points"] spAny) (GBl : FnOk P w K mg base CX0 3 fBl dBl ["_law_cup_here", "_law_signs", "_law_lot"] spBlock) :
    FnOk P w K mg base CX0 4 f fd ["_law_cup_here", "_law_signs"] spMoves := by
  have GB := ok_bit (P := P) (w := w) (base := base) DB.F T
  refine F.ok scMoves (fun vs H Q E h => ?_) (fun cdv A outer s H vs Q E hr h => ?_)
  · obtain ⟨c, z, rfl, _⟩ := h
    rfl
  · obtain ⟨c, z, rfl, hc, hz, q⟩ := h
    have hu := hu_of hr
    have r1 : Room 1 _ := hr.mono (by decide)
    refine ⟨_, pss_cons (ps_set (i := 2) scMoves.nd rfl (Or.inl rfl) (pe_call GB r1 (by rfl) DB.m DB.F.kp DB.b .nil pass0 (pa_cons (pv 0) (pa_cons pe_int pa_nil))))
      (pss_cons (ps_if (PW.pt (pw_or (pt_cmpR op_eq (pv 2) pe_int (nomark _)) (pw_or1 (pt_cmpR op_eq (pv 2) pe_int (nomark _)))))
        (pss_cons (ps_set (i := 3) scMoves.nd rfl (Or.inr rfl) (pe_op op_add pe_int (pe_call GB r1 (by rfl) DB.m DB.F.kp DB.b .nil pass0 (pa_cons (pv 0) (pa_cons pe_int pa_nil))))) (pss_one (ps_ret (pe_callTy (call_dictP rfl) (by rfl) T.dict (by decide +kernel) (pa_cons (pe_lc (own := [("_law_sign", 4)]) (g := gName 4) (tt := tYes)  rfl scMoves.nd (pi_str (pv 1)) (blkOk_by (own := [("_law_sign", 4)]) (N := nMoves) (sc := defScope sMoves) (by decide +kernel)) (fun _ _ _ _ _ => pg_name (i := 4) scMoves.nd rfl (Or.inl rfl)) (fun _ _ _ _ _ => pts_nil) (fun _ _ _ _ _ => pe_tup (pa_cons (pv 4) (pa_cons (pe_call GA hr (by rfl) DA.m DA.F.kp DA.b .nil pass0 (pa_cons (pv 0) (pa_cons (pv 3) pa_nil))) pa_nil)))) pa_nil))))) pss_nil)
      (pss_cons (ps_if (pt_cmpR op_eq (pv 2) pe_int (nomark _))
        (pss_cons (ps_set (i := 3) scMoves.nd rfl (Or.inr rfl) (pe_op op_add pe_int (pe_call GB r1 (by rfl) DB.m DB.F.kp DB.b .nil pass0 (pa_cons (pv 0) (pa_cons pe_int pa_nil)))))
        (pss_cons (ps_set (i := 5) scMoves.nd rfl (Or.inl rfl) pe_dnewK)
        (pss_cons (ps_for PassesOwn.never rfl (pi_str (pv 1)) (pg_name (i := 4) scMoves.nd rfl (Or.inl rfl))
          (pss_cons (ps_set (i := 6) scMoves.nd rfl (Or.inr rfl) (pe_call GB r1 (by rfl) DB.m DB.F.kp DB.b .nil pass0 (pa_cons (pv 0) (pa_cons (pv 3) pa_nil))))
          (pss_one (ps_dput hu (pv 5) (pv 4) (pe_callTy call_tuple_of (by rfl) T.tuple (by decide +kernel) (pa_cons (pe_lc (own := [("_law_spot", 7)]) (g := gName 7) (tt := tYes)  rfl scMoves.nd (pi_range1 rfl T.range (pa_cons (pv 3) pa_nil)) (blkOk_by (own := [("_law_spot", 7)]) (N := nMoves) (sc := defScope sMoves) (by decide +kernel)) (fun _ _ _ _ _ => pg_name (i := 7) scMoves.nd rfl (Or.inl rfl)) (fun _ _ _ _ _ => pts_nil) (fun _ _ _ _ _ => pe_op op_modN (pe_callTy call_int1 (by rfl) T.int (by decide +kernel) (pa_cons (pe_op op_add (pv 7) (pv 6)) pa_nil)) (pv 3))) pa_nil)) rfl))))
        (pss_one (ps_ret (pv 5)))))) pss_nil)
      (pss_one (ps_ret (pe_call GBl hr (by rfl) DBl.m DBl.F.kp DBl.b .nil pass0 (pa_cons (pv 0) (pa_cons (pv 1) (pa_cons (pv 2) pa_nil)))))))), ?_⟩
    refine ⟨_, rfl, c, 7, rfl, hc, by decide, nat9 (by decide), fun r H1 r0 r7 hc1 b1 => ?_⟩
    obtain ⟨m, rfl⟩ : ∃ k : Nat, r = (k : Int) := ⟨r.toNat, by omega⟩
    refine or_eq (i := 2) (m := (m : Int)) rfl ?_
    by_cases h50 : (m : Int) = 5 ∨ (m : Int) = 0
    · rw [decide_eq_true h50]
      refine iteT ?_
      refine ⟨_, rfl, c, 4, rfl, hc1, by decide, nat9 (by decide), fun r H2 r0 r4 hc2 b2 => ?_⟩
      obtain ⟨n, rfl⟩ : ∃ k : Nat, r = (k : Int) := ⟨r.toNat, by omega⟩
      refine ⟨_, _, rfl, rfl, ?_⟩
      have e1 : (fun i j : Int => V.int (i + j)) 1 (n : Int) = V.int ((n + 1 : Nat) : Int) := congrArg V.int (by omega)
      rw [e1]
      clear e1
      have n1 : 1 ≤ n + 1 := Nat.succ_le_succ (Nat.zero_le n)
      have n4 : n + 1 ≤ 4 := by omega
      generalize n + 1 = n at n1 n4 ⊢
      refine ⟨_, rfl, z, rfl, fun D hD => ?_⟩
      have nDc : D ≠ c := hc2.ne hD
      refine lc_text (fun i H3 => Cup H3 c ∧ But c H2 H3 ∧ ∃ (qs : List Addr) (kvs : List (Key × V)), H3 D = some (.lst (qs.map V.ref)) ∧ PairsC H3 qs kvs ∧ qs.length = i ∧ (kvs.map fun kv => kv.1) = ((cds z).take i).map (fun x => (Sum.inr (one x) : Key)) ∧
          ∀ kv ∈ kvs, ∃ p t, kv.2 = .ref p ∧ Tup H3 p t ∧ t ∈ allT n)
        ⟨hc2.same (same_upd hD), But.of (same_upd hD), [], [], upd_same, .nil, rfl, rfl, fun kv h => nomatch h⟩ ?_ ?_
      · rintro i x H3 hx ⟨hc3, b3, qs, kvs, e3, hp, hl, hk, hv⟩
        have hi := (List.getElem?_eq_some_iff.mp hx).1
        refine ⟨rfl, iteT (B := False) ?_⟩
        refine ⟨_, rfl, _, rfl, _, rfl, c, n, rfl, hc3, by omega, fun p H4 t hc4 b4 ht tt => ?_⟩
        refine ⟨(by show 2 ≤ sizeLine; decide), fun y ny => ?_⟩
        have s5 := same_upd (o := .tup [V.str (one x), V.ref p]) ny
        have e5 := s5 _ _ (b4 _ _ nDc e3)
        have hc5 := hc4.same s5
        have b35 := b4.trans (But.of s5)
        have y5 : (upd H4 y (.tup [V.str (one x), V.ref p])) y = some (.tup [V.str (one x), V.ref p]) := upd_same
        have t5 : Tup (upd H4 y (.tup [V.str (one x), V.ref p])) p t := s5 _ _ ht
        generalize upd H4 y (.tup [V.str (one x), V.ref p]) = H5 at e5 hc5 b35 y5 t5 ⊢
        have nT : NoT H5 D := .lst e5
        refine ⟨_, e5, ?_, ?_, ?_, qs ++ [y], kvs ++ [((Sum.inr (one x) : Key), V.ref p)], ?_, ?_, ?_, ?_, ?_⟩
        · rw [List.length_map, hl]
          exact Nat.lt_of_le_of_lt (show i ≤ 100 by omega) (by decide)
        · obtain ⟨c0, c1, c2, ec⟩ := hc5
          exact ⟨c0, c1, c2, by rw [upd_ne nDc.symm]; exact ec⟩
        · intro b o nb eb
          rw [upd_ne (ne_of_none eb hD)]
          exact b35 _ _ nb (b3 _ _ nb eb)
        · rw [upd_same, List.map_append]
          rfl
        · exact paired_snoc (paired_mono (fun a b h => tupO_upd nT (tupO_but hc3.noT b35 h)) hp) (tupO_upd nT y5)
        · rw [List.length_append, hl]
          rfl
        · rw [List.take_add_one, hx, List.map_append, List.map_append, hk]
          rfl
        · intro kv hkv
          rcases List.mem_append.mp hkv with h | h
          · obtain ⟨p', t', e', h', m'⟩ := hv kv h
            exact ⟨p', t', e', tup_upd nT (tup_but hc3.noT b35 h'), m'⟩
          · rw [List.mem_singleton.mp h]
            exact ⟨p, t, rfl, tup_upd nT t5, mem_allT.mpr tt⟩
      · rintro H3 ⟨hc3, b3, qs, kvs, e3, hp, hl, hk, hv⟩
        rw [List.take_of_length_le (Nat.le_refl _)] at hk
        refine ⟨D, qs, kvs, rfl, SqL.of e3, paired_mono (fun a b h => SqT.of h) hp, fun d nd => ?_⟩
        have s4 := same_upd (o := .dK (mergeK [] kvs)) nd
        refine q d n (allT n) _ (hc3.same s4) (((b1.trans b2).trans b3).trans (But.of s4)) ⟨_, upd_same, fun x hx => ?_⟩ (closed_allT n4) n1 (by omega)
        obtain ⟨v, h1, p, t, h2, h3, h4⟩ := val_merge (G := fun v => ∃ p t, v = V.ref p ∧ Tup H3 p t ∧ t ∈ allT n) (Sum.inr (one x) : Key) kvs [] hv (.inr (by rw [hk]; exact List.mem_map.mpr ⟨x, hx, rfl⟩))
        exact ⟨p, t, by rw [h1, h2], s4 _ _ h3, h4⟩
    · rw [decide_eq_false h50]
      refine iteF ?_
      refine ⟨_, rfl, rfl, _, rfl, ?_⟩
      by_cases h6 : (m : Int) = 6
      · rw [decide_eq_true (congrArg V.int h6)]
        refine iteT ?_
        refine ⟨_, rfl, c, 12, rfl, hc1, by decide, nat9 (by decide), fun r H2 r0 r4 hc2 b2 => ?_⟩
        obtain ⟨n, rfl⟩ : ∃ k : Nat, r = (k : Int) := ⟨r.toNat, by omega⟩
        refine ⟨_, _, rfl, rfl, ?_⟩
        have e1 : (fun i j : Int => V.int (i + j)) 1 (n : Int) = V.int ((n + 1 : Nat) : Int) := congrArg V.int (by omega)
        rw [e1]
        clear e1
        have n1 : 1 ≤ n + 1 := Nat.succ_le_succ (Nat.zero_le n)
        have n12 : n + 1 ≤ 12 := by omega
        generalize n + 1 = n at n1 n12 ⊢
        intro d nd
        have ndc : d ≠ c := hc2.ne nd
        refine ⟨_, rfl, z, rfl, ?_⟩
        refine for_text (fun i σ H3 => ∃ (t4 t6 : Option V) (kvs : List (Key × V)), σ = [some (.ref c), some (.str z), some (.int (m : Int)), some (.int (n : Int)), t4, some (.ref d), t6, none] ∧ Cup H3 c ∧ But c H2 H3 ∧ H3 d = some (.dK kvs) ∧ kvs.length ≤ i ∧
            ∀ x ∈ (cds z).take i, ∃ p t, valV kvs (Sum.inr (one x)) = some (.ref p) ∧ Tup H3 p t ∧ t ∈ rots n)
          ⟨none, none, [], rfl, hc2.same (same_upd nd), But.of (same_upd nd), upd_same, Nat.le_refl _, fun x hx => nomatch hx⟩ ?_ ?_
        · rintro i x σ H3 hx ⟨t4, t6, kvs, rfl, hc3, b3, e3, lk, hkv⟩
          have hi := (List.getElem?_eq_some_iff.mp hx).1
          refine ⟨_, rfl, _, rfl, c, (n : Int), rfl, hc3, by omega, nat9 (by omega), fun r H4 r0 rn hc4 b4 => ?_⟩
          obtain ⟨k, rfl⟩ : ∃ k : Nat, r = (k : Int) := ⟨r.toNat, by omega⟩
          have kn : k < n := by omega
          refine ⟨_, rfl, (n : Int), rfl, by omega, by omega, fun D hD => ?_⟩
          rw [Int.toNat_natCast]
          refine lc_range (lo := 0) (n := n) (fun j H5 => Same H4 H5 ∧ H5 D = some (.lst (nats ((rot n k).take j)))) ⟨same_upd hD, upd_same⟩ ?_ ?_
          · rintro j H5 hj ⟨s5, e5⟩
            rw [Int.zero_add]
            refine ⟨rfl, iteT (B := False) ?_⟩
            refine ⟨_, rfl, _, rfl, _, _, rfl, rfl, .inl ⟨_, rfl, _, rfl, _, _, rfl, rfl, (show ((n : Nat) : Int) ≠ 0 by omega), ?_⟩⟩
            have ev : (V.int (Int.fmod ((j : Int) + (k : Int)) (n : Int))) = V.int (((j + k) % n : Nat) : Int) := by
              rw [Int.fmod_eq_emod_of_nonneg _ (by omega)]
              rfl
            refine ⟨_, e5, ?_, same_put s5 hD, ?_⟩
            · rw [List.length_map, List.length_take]
              exact Nat.lt_of_le_of_lt (show _ ≤ 100 by omega) (by decide)
            · have hl : j < (rot n k).length := by
                unfold rot
                rw [List.length_map, List.length_range]
                exact hj
              have er : (rot n k)[j] = (j + k) % n := (List.getElem_map ..).trans (by rw [List.getElem_range])
              rw [upd_same, List.take_add_one, List.getElem?_eq_getElem hl, er]
              show some (HO.lst (_ ++ [V.int (Int.fmod ((j : Int) + (k : Int)) (n : Int))])) = some (HO.lst (List.map _ (_ ++ [_])))
              rw [ev, List.map_append]
              rfl
          · rintro H5 ⟨s5, e5⟩
            rw [List.take_of_length_le (by unfold rot; rw [List.length_map, List.length_range]; exact Nat.le_refl _)] at e5
            refine ⟨D, _, rfl, .inl ⟨SqL.of e5, fun p np => ?_⟩⟩
            have s6 := s5.trans (same_upd (o := .tup (nats (rot n k))) np)
            have t6' : Tup (upd H5 p (.tup (nats (rot n k)))) p (rot n k) := upd_same
            generalize upd H5 p (.tup (nats (rot n k))) = H6 at s6 t6' ⊢
            have b46 := b4.trans (But.of s6)
            have e6 := b46 _ _ ndc e3
            have hc6 := hc4.same s6
            have nT : NoT H6 d := fun xs e => by rw [e6] at e; cases e
            refine ⟨_, rfl, _, rfl, d, _, rfl, DPut.k (k := (Sum.inr (one x) : Key)) e6 (Nat.lt_of_le_of_lt (show _ ≤ 100 by omega) (by decide)), _, _, putK kvs (Sum.inr (one x) : Key) (.ref p), rfl, ?_, ?_, upd_same, ?_, ?_⟩
            · obtain ⟨c0, c1, c2, ec⟩ := hc6
              exact ⟨c0, c1, c2, by rw [upd_ne ndc.symm]; exact ec⟩
            · intro b o nb eb
              rw [upd_ne (ne_of_none eb nd)]
              exact b46 _ _ nb (b3 _ _ nb eb)
            · have := length_putK kvs (Sum.inr (one x) : Key) (.ref p)
              omega
            · intro y hy
              rw [valV_put]
              by_cases hyx : y = x
              · rw [if_pos (by rw [hyx])]
                exact ⟨p, _, rfl, tup_upd nT t6', mem_rots kn⟩
              · rw [if_neg fun e => hyx (one_inj (by injection e))]
                rw [List.take_add_one, hx] at hy
                rcases List.mem_append.mp hy with hy | hy
                · obtain ⟨p', t', e', h', m'⟩ := hkv y hy
                  exact ⟨p', t', e', tup_upd nT (tup_but hc3.noT b46 h'), m'⟩
                · exact absurd (List.mem_singleton.mp hy) hyx
        · rintro σ H3 ⟨t4, t6, kvs, rfl, hc3, b3, e3, lk, hkv⟩
          rw [List.take_of_length_le (Nat.le_refl _)] at hkv
          exact ⟨_, rfl, q d n (rots n) H3 hc3 ((b1.trans b2).trans b3) ⟨kvs, e3, hkv⟩ (closed_of (c_rots n n12 n1)) n1 n12⟩
      · rw [decide_eq_false (fun e => h6 (by injection e))]
        refine iteF ?_
        have m1 : 1 ≤ m := by omega
        have m4 : m ≤ 4 := by omega
        refine ⟨_, rfl, _, rfl, _, rfl, c, z, m, rfl, hc1, m1, m4, hz, fun d H2 hc2 b2 hm => ?_⟩
        refine q d (nLot m) (uLot m) H2 hc2 (b1.trans b2) hm (closed_lot m m1 m4) ?_ ?_
        · unfold nLot
          split <;> decide
        · unfold nLot
          split <;> decide
end
end K42

set_option Elab.async false
set_option linter.all false
set_option maxRecDepth 100000
set_option maxHeartbeats 3200000
namespace K42
open PySem L2 Tx Tg Tm Sr
/-! ### readings that give turns, tuples of turns and plain values -/
def EvT (te : TE) (σ : L2.St) (H0 : Hp) (t : List Nat) : Prop := ∀ H, Same H0 H → ∀ Q : VK, (∀ p H', Same H H' → Tup H' p t → Q (.ref p) H') → te σ H Q
def EvR (te : TE) (σ : L2.St) (H0 : Hp) (l : List (List Nat)) : Prop := ∀ H, Same H0 H → ∀ Q : VK, (∀ p H', Same H H' → Rows H' p l → Q (.ref p) H') → te σ H Q
def EvL (te : TE) (σ : L2.St) (H0 : Hp) (l : List (List Nat)) : Prop := ∀ H, Same H0 H → ∀ Q : VK, (∀ p H', Same H H' → LstT H' p l → Q (.ref p) H') → te σ H Q
def EvS (te : TE) (σ : L2.St) (H0 : Hp) (n : Nat) (S : List (List Nat)) : Prop := ∀ H, Same H0 H → ∀ Q : VK, (∀ p l H', Same H H' → Rows H' p l → Pm.IsSpan n S l → Q (.ref p) H') → te σ H Q
def EvV (te : TE) (σ : L2.St) (H0 : Hp) (v : V) : Prop := ∀ H, Same H0 H → ∀ Q : VK, (∀ H', Same H H' → Q v H') → te σ H Q
def EvF (t : TT) (σ : L2.St) (H0 : Hp) : Prop := ∀ H, Same H0 H → ∀ D : Bool → Hp → Prop, (∀ H', Same H H' → D false H') → t σ H D
/-! ### what is shown -/
theorem str_app (a b : Str) : (a ++ b).length = a.length + b.length := Array.size_append
theorem shown20 : ∀ p < 60, (PyData.shown (.int ((p : Nat) : Int))).length ≤ 20 := by decide +kernel
theorem piled_le : ∀ l : List Nat, (∀ p ∈ l, p < 60) → PySem.piled (PyData.shownAll (natsD l)) ≤ 22 * l.length
  | [], _ => Nat.zero_le _
  | z :: l, h => by
    show PySem.piled (PyData.shown (.int (z : Int)) :: PyData.shownAll (natsD l)) ≤ _
    rw [PySem.piled_cons, List.length_cons]
    have := shown20 z (h z List.mem_cons_self)
    have := piled_le l fun y hy => h y (List.mem_cons_of_mem _ hy)
    omega
theorem tuple_len (L : List Str) {b : Nat} (h : PySem.piled L ≤ b) : (("(" : Str) ++ Str.join ", " L ++ (if L.length == 1 then ",)" else ")" : String)).length ≤ b + 3 := by
  have hj : (Str.join ", " L).length ≤ b := by
    by_cases e : L = []
    · rw [e]
      exact Nat.zero_le _
    · have := PySem.join_length_add _ e
      omega
  rw [str_app, str_app]
  have e1 : ("(" : Str).length = 1 := by decide +kernel
  have e2 : ∀ b : Bool, (((if b = true then ",)" else ")" : String)) : Str).length ≤ 2 := by decide +kernel
  have e3 := e2 (L.length == 1)
  rw [e1]
  omega
theorem shown_tup {l : List Nat} (h : ∀ p ∈ l, p < 60) (hl : l.length ≤ 60) : (PyData.shown (tupD l)).length ≤ 1323 :=
  Nat.le_trans (tuple_len (PyData.shownAll (natsD l)) (piled_le l h)) (by omega)
theorem piled_tups : ∀ ts : List (List Nat), (∀ t ∈ ts, (∀ p ∈ t, p < 60) ∧ t.length ≤ 60) → PySem.piled (PyData.shownAll (tupsD ts)) ≤ 1325 * ts.length
  | [], _ => Nat.zero_le _
  | t :: ts, h => by
    show PySem.piled (PyData.shown (tupD t) :: PyData.shownAll (tupsD ts)) ≤ _
    rw [PySem.piled_cons, List.length_cons]
    have h1 := h t List.mem_cons_self
    have := shown_tup h1.1 h1.2
    have := piled_tups ts fun y hy => h y (List.mem_cons_of_mem _ hy)
    omega
theorem shown_rows {ts : List (List Nat)} (h : ∀ t ∈ ts, (∀ p ∈ t, p < 60) ∧ t.length ≤ 60) (hl : ts.length ≤ 2000) : (PyData.shown (.tuple (tupsD ts))).length ≤ sizeLine :=
  Nat.le_trans (tuple_len (PyData.shownAll (tupsD ts)) (piled_tups ts h)) (Nat.le_trans (show _ ≤ 1325 * 2000 + 3 by omega) (by decide))
theorem show60 : ∀ p < 60, PyData.showable (.int ((p : Nat) : Int)) = true := by decide +kernel
theorem show_all : ∀ l : List Nat, (∀ p ∈ l, p < 60) → PyData.showableAll (natsD l) = true
  | [], _ => rfl
  | c :: l, h => by
    show (PyData.showable (.int ((c : Nat) : Int)) && PyData.showableAll (natsD l)) = true
    rw [show60 c (h c List.mem_cons_self), show_all l fun y hy => h y (List.mem_cons_of_mem _ hy)]
    rfl
theorem show_tups : ∀ ts : List (List Nat), (∀ t ∈ ts, ∀ p ∈ t, p < 60) → PyData.showableAll (tupsD ts) = true
  | [], _ => rfl
  | t :: ts, h => by
    show (PyData.showableAll (natsD t) && PyData.showableAll (tupsD ts)) = true
    rw [show_all t (h t List.mem_cons_self), show_tups ts fun y hy => h y (List.mem_cons_of_mem _ hy)]
    rfl
theorem nodict_all : ∀ l : List Nat, PyData.hasDictAll (natsD l) = false
  | [] => rfl
  | c :: l => by
    show (false || PyData.hasDictAll (natsD l)) = false
    rw [nodict_all l]
    rfl
theorem nodict_tups : ∀ ts : List (List Nat), PyData.hasDictAll (tupsD ts) = false
  | [] => rfl
  | t :: ts => by
    show (PyData.hasDictAll (natsD t) || PyData.hasDictAll (tupsD ts)) = false
    rw [nodict_all, nodict_tups ts]
    rfl
theorem rows_same {H H' : Hp} {a : Addr} {ts : List (List Nat)} (s : Same H H') (h : Rows H a ts) : Rows H' a ts := let ⟨ps, e, ht⟩ := h; ⟨ps, s _ _ e, tups_same s ht⟩
theorem rows_but {H H' : Hp} {c p : Addr} {ts : List (List Nat)} (n : NoT H c) (b : But c H H') (h : Rows H p ts) : Rows H' p ts := let ⟨ps, e, ht⟩ := h; ⟨ps, tupO_but n b e, tups_but n b ht⟩
theorem each_app {α β : Type} {R : α → β → Prop} : ∀ {as as' : List α} {bs bs' : List β}, PySem.W.EachIs R as bs → PySem.W.EachIs R as' bs' → PySem.W.EachIs R (as ++ as') (bs ++ bs')
  | _, _, _, _, .nil, r => r
  | _, _, _, _, .cons r t, q => .cons r (each_app t q)
section
variable {K : PySem.W.Frag} {σ : L2.St} {H0 H : Hp} {t u : List Nat} {l m S U : List (List Nat)} {n L : Nat} {ta tb : TE} {x y : V} {p q : TT} {us : TS} {D : Ends}
theorem et_var {i : Nat} {a : Addr} (hi : σ[i]? = some (some (.ref a))) (h : Tup H0 a t) : EvT (tVar i) σ H0 t := fun H s Q q => ⟨_, hi, q a H (Same.refl H) (s _ _ h)⟩
theorem er_var {i : Nat} {a : Addr} (hi : σ[i]? = some (some (.ref a))) (h : Rows H0 a l) : EvR (tVar i) σ H0 l := fun H s Q q => ⟨_, hi, q a H (Same.refl H) (rows_same s h)⟩
theorem ev_var {i : Nat} (hi : σ[i]? = some (some x)) : EvV (tVar i) σ H0 x := fun H s Q q => ⟨_, hi, q H (Same.refl H)⟩
theorem ev_c : EvV (tC x) σ H0 x := fun H s Q q => q H (Same.refl H)
theorem et_still {i : Nat} (hi : σ[i]? = some (some (.int (n : Int)))) (h : n ≤ 60) : EvT (tTupRg (tRg1 (tVar i))) σ H0 (List.range n) := fun H s Q q => ⟨_, hi, _, rfl, RgOk.of_le (Int.le_refl 0) (by omega) (by decide) (by omega), fun p np => by
  rw [rg_nats]
  exact q p _ (same_upd np) upd_same⟩
theorem et_joint (e1 : EvT ta σ H0 t) (e2 : EvT tb σ H0 u) (ht : Pm.Turn n t) (hu : Pm.Turn n u) (n1 : 1 ≤ n) (n9 : n ≤ 12) : EvT (tCall (spJ K) [] E0 (tCons ta (tCons tb tNil))) σ H0 (Pm.joint t u) := fun H s Q q =>
  e1 H s _ fun p H1 s1 h1 => e2 H1 (s.trans s1) _ fun p2 H2 s2 h2 => ⟨p, p2, t, u, n, rfl, SqT.of (s2 _ _ h1), SqT.of h2, ht, hu, n1, n9, fun z H3 s3 h3 => q z H3 ((s1.trans s2).trans s3) h3⟩
theorem et_undone (e1 : EvT ta σ H0 t) (ht : Pm.Turn n t) (n1 : 1 ≤ n) (n9 : n ≤ 12) : EvT (tCall (spU K) [] E0 (tCons ta tNil)) σ H0 (Pm.undone t) := fun H s Q q =>
  e1 H s _ fun p H1 s1 h1 => ⟨p, t, n, rfl, SqT.of h1, ht, n1, n9, fun z H3 s3 h3 => q z H3 (s1.trans s3) h3⟩
theorem er_one (e1 : EvT ta σ H0 t) : EvR (tTup (tCons ta tNil)) σ H0 [t] := fun H s Q q =>
  e1 H s _ fun p H1 s1 h1 => ⟨(by show 1 ≤ sizeLine; decide), fun r nr => q r _ (s1.trans (same_upd nr)) ⟨[p], upd_same, .cons (tup_upd (.none nr) h1) .nil⟩⟩
theorem er_two (e1 : EvT ta σ H0 t) (e2 : EvT tb σ H0 u) : EvR (tTup (tCons ta (tCons tb tNil))) σ H0 [t, u] := fun H s Q q =>
  e1 H s _ fun p H1 s1 h1 => e2 H1 (s.trans s1) _ fun p2 H2 s2 h2 => ⟨(by show 2 ≤ sizeLine; decide), fun r nr => q r _ ((s1.trans s2).trans (same_upd nr)) ⟨[p, p2], upd_same, .cons (tup_upd (.none nr) (s2 _ _ h1)) (.cons (tup_upd (.none nr) h2) .nil)⟩⟩
theorem er_cat (e1 : EvR ta σ H0 l) (e2 : EvR tb σ H0 m) (h1 : l.length ≤ 2000) (h2 : m.length ≤ 2000) : EvR (tOp (rCatA K) ta tb) σ H0 (l ++ m) := fun H s Q q =>
  e1 H s _ fun p H1 s1 ⟨ps, ep, hp⟩ => e2 H1 (s.trans s1) _ fun p2 H2 s2 ⟨qs, eq, hq⟩ => by
    have lp := tups_len hp
    have lq := tups_len hq
    refine ⟨p, p2, ps.map V.ref, qs.map V.ref, rfl, rfl, SqT.of (s2 _ _ ep), SqT.of eq, ?_, fun e => ?_, fun _ e => ?_, fun _ _ r nr => ?_⟩
    · rw [List.length_map, List.length_map]
      exact Nat.le_trans (show _ ≤ 4000 by omega) (by decide)
    · have e := List.map_eq_nil_iff.mp e
      subst e
      cases hp
      exact q p2 H2 (s1.trans s2) ⟨qs, eq, hq⟩
    · have e := List.map_eq_nil_iff.mp e
      subst e
      cases hq
      exact q p H2 (s1.trans s2) (by
        rw [List.append_nil]
        exact ⟨ps, s2 _ _ ep, tups_same s2 hp⟩)
    · refine q r _ ((s1.trans s2).trans (same_upd nr)) ⟨ps ++ qs, by rw [upd_same, List.map_append], ?_⟩
      exact each_app (tups_upd (.none nr) (tups_same s2 hp)) (tups_upd (.none nr) hq)
theorem es_spanned (e1 : EvV ta σ H0 (.int (n : Int))) (e2 : EvR tb σ H0 S) (few : Pm.Few n S U) (lU : U.length ≤ 2000) (n1 : 1 ≤ n) (n9 : n ≤ 60) (lS : S.length ≤ 2000) : EvS (tCall spSpanned [] E0 (tCons ta (tCons tb tNil))) σ H0 n S := fun H s Q q =>
  e1 H s _ fun H1 s1 => e2 H1 (s.trans s1) _ fun p H2 s2 h2 => ⟨p, n, S, U, rfl, h2, few, lU, n1, n9, lS, fun r l H3 s3 h3 hl => q r l H3 ((s1.trans s2).trans s3) h3 hl⟩
theorem EvS.toR {S' : List (List Nat)} (e : EvS ta σ H0 n S) (h : Pm.IsSpan n S' l) (eq : ∀ x, Pm.Gen n S x ↔ Pm.Gen n S' x) : EvR ta σ H0 l := fun H s Q q => e H s Q fun p l' H' s' h' hl => q p H' s' (by
  rw [← hl.uniq h eq]
  exact h')
theorem el_made {S' : List (List Nat)} (e1 : EvV ta σ H0 (.int (n : Int))) (e2 : EvR tb σ H0 S) (few : Pm.Few n S U) (lU : U.length ≤ 2000) (n1 : 1 ≤ n) (n9 : n ≤ 60) (h : Pm.IsSpan n S l) : EvL (tCall spMade [] E0 (tCons ta (tCons tb tNil))) σ H0 l := fun H s Q q =>
  e1 H s _ fun H1 s1 => e2 H1 (s.trans s1) _ fun p H2 s2 h2 => ⟨p, n, S, U, rfl, h2, few, lU, n1, n9, fun r l' H3 s3 h3 hl => q r H3 ((s1.trans s2).trans s3) (by
    rw [← hl.uniq h fun _ => Iff.rfl]
    exact h3)⟩
theorem er_tuple (e1 : EvL ta σ H0 l) : EvR (tCB (fun xs H Q => ∃ p ys, xs = [.ref p] ∧ ((SqL K H p ys ∧ ∀ l, H l = none → Q (.ref l) (upd H l (.tup ys))) ∨ (SqT K H p ys ∧ Q (.ref p) H))) (tCons ta tNil)) σ H0 l := fun H s Q q =>
  e1 H s _ fun p H1 s1 ⟨ps, ep, hp⟩ => ⟨p, _, rfl, .inl ⟨SqL.of ep, fun r nr => q r _ (s1.trans (same_upd nr)) ⟨ps, upd_same, tups_upd (.none nr) hp⟩⟩⟩
theorem ev_showR (e1 : EvR ta σ H0 l) (hl : ∀ t ∈ l, Pm.Turn n t) (n9 : n ≤ 60) (ll : l.length ≤ 2000) : EvV (tCB (rShow K) (tCons ta tNil)) σ H0 (.str (PyData.shown (.tuple (tupsD l)))) := fun H s Q q =>
  e1 H s _ fun p H1 s1 h1 => by
    have hb : ∀ t ∈ l, (∀ p ∈ t, p < 60) ∧ t.length ≤ 60 := fun t ht => ⟨fun p hp => Nat.lt_of_lt_of_le ((hl t ht).mem.mp hp) n9, by rw [(hl t ht).len]; exact n9⟩
    refine ⟨.ref p, .tuple (tupsD l), rfl, .flat (dp_rows h1) (nodict_tups l), show_tups l (fun t ht => (hb t ht).1), ?_, shown_rows hb ll, q H1 s1⟩
    have := deep_tups l
    show PyData.depthAll (tupsD l) + 1 < 60
    omega
theorem ev_lenR (e1 : EvR ta σ H0 l) : EvV (tCB (fun xs H Q => ∃ p ys, xs = [.ref p] ∧ (SqL K H p ys ∨ SqT K H p ys) ∧ Q (.int ys.length) H) (tCons ta tNil)) σ H0 (.int (l.length : Int)) := fun H s Q q =>
  e1 H s _ fun p H1 s1 ⟨ps, ep, hp⟩ => ⟨p, _, rfl, .inr (SqT.of ep), by
    rw [List.length_map, tups_len hp]
    exact q H1 s1⟩
theorem ef_or (e1 : EvF p σ H0) (e2 : EvF q σ H0) : EvF (tOr p q) σ H0 := fun H s D q => e1 H s _ fun H1 s1 => iteF (e2 H1 (s.trans s1) _ fun H2 s2 => q H2 (s1.trans s2))
theorem ef_ne (e1 : EvV ta σ H0 x) (e2 : EvV tb σ H0 x) (hx : scal x x = true) : EvF (tTest (tOp rNe ta tb)) σ H0 := fun H s D q => e1 H s _ fun H1 s1 => e2 H1 (s.trans s1) _ fun H2 s2 => ⟨hx, _, rfl, by
  rw [decide_eq_true rfl]
  exact q H2 (s1.trans s2)⟩
theorem ef_notIn (e1 : EvT ta σ H0 t) (e2 : EvR tb σ H0 l) (h : t ∈ l) : EvF (tTest (tOp (rInT true) ta tb)) σ H0 := fun H s D q => e1 H s _ fun p1 H1 s1 h1 => e2 H1 (s.trans s1) _ fun p2 H2 s2 h2 =>
  ⟨p1, p2, t, l, rfl, rfl, s2 _ _ h1, h2, _, rfl, by
    rw [if_pos rfl, decide_eq_true h]
    exact q H2 (s1.trans s2)⟩
theorem ef_neR (e1 : EvR ta σ H0 l) (e2 : EvR tb σ H0 m) (e : l = m) : EvF (tTest (tOp (rNeD K) ta tb)) σ H0 := fun H s D q => e1 H s _ fun p1 H1 s1 h1 => e2 H1 (s.trans s1) _ fun p2 H2 s2 h2 =>
  ⟨_, _, dp_rows (rows_same s2 h1), dp_rows h2, shaped_rows _, shaped_rows _, _, rfl, by
    rw [eq_rows, decide_eq_true e]
    exact q H2 (s1.trans s2)⟩
theorem ev_eqR (e1 : EvR ta σ H0 l) (e2 : EvR tb σ H0 m) (e : l = m) : EvV (tOp (rEqD K) ta tb) σ H0 (.bl true) := fun H s Q q => e1 H s _ fun p1 H1 s1 h1 => e2 H1 (s.trans s1) _ fun p2 H2 s2 h2 =>
  ⟨_, _, dp_rows (rows_same s2 h1), dp_rows h2, shaped_rows _, shaped_rows _, by
    rw [eq_rows, decide_eq_true e]
    exact q H2 (s1.trans s2)⟩
/-- [turn for turn in rows if turn not in told] != [] -/
theorem ef_comp {i j k : Nat} {a b : Addr} (hi : σ[i]? = some (some (.ref a))) (ha : Rows H0 a m) (hb : Rows H0 b l) (hsub : ∀ t ∈ m, t ∈ l) (hj : ∀ v, ((wipe σ [j]).set j (some v))[j]? = some (some v)) (hk : ∀ v, ((wipe σ [j]).set j (some v))[k]? = some (some (.ref b)))
    (hw : ∀ v, wipe ((wipe σ [j]).set j (some v)) [j] = wipe σ [j]) : EvF (tTest (tOp (rNeD K) (tLc (iTup K (tVar i)) (gName j) (tTest (tOp (rInT true) (tVar j) (tVar k))) (tVar j) [j]) (tLst tNil))) σ H0 := fun H s D q => by
  obtain ⟨ps, ea, hps⟩ := rows_same s ha
  have hb1 := rows_same s hb
  refine ⟨_, hi, a, rfl, ⟨_, SqT.of ea⟩, fun D2 hD => ?_⟩
  refine lc_tup (xs := ps.map V.ref) (fun i H2 => Same H H2 ∧ H2 D2 = some (.lst [])) ⟨same_upd hD, upd_same⟩ (fun i H2 _ z => SqT.of (z.1 _ _ ea)) ?_ ?_
  · rintro i x H2 hx ⟨s2, e2⟩
    have hi := (List.getElem?_eq_some_iff.mp hx).1
    rw [List.length_map] at hi
    rw [refs_at hi] at hx
    cases hx
    obtain ⟨hj2, ht⟩ := tups_at (tups_same s2 hps) i hi
    refine ⟨hw _, _, hj _, _, hk _, ps[i], b, m[i], l, rfl, rfl, ht, rows_same s2 hb1, _, rfl, ?_⟩
    rw [if_pos rfl, decide_eq_true (hsub _ (List.getElem_mem hj2))]
    exact iteF ⟨s2, e2⟩
  · rintro H2 ⟨s2, e2⟩
    refine ⟨Nat.zero_le _, fun p2 np2 => ?_⟩
    refine ⟨.list (natsD []), .list (natsD []), .lst (SqL.of ((same_upd np2) _ _ e2)) (nats_all K _ []), .lst (SqL.of upd_same) (nats_all K _ []), shaped_lst [], shaped_lst [], _, rfl, ?_⟩
    rw [eq_lst]
    exact q _ (s2.trans (same_upd np2))
/-- len(spanned(points, (one,))) != turn_order(one) -/
theorem ef_lenOrd (e1 : EvS ta σ H0 n [t]) (e2 : EvT tb σ H0 t) (ht : Pm.Turn n t) (n1 : 1 ≤ n) (n9 : n ≤ 12) :
    EvF (tTest (tOp rNe (tCB (fun xs H Q => ∃ p ys, xs = [.ref p] ∧ (SqL K H p ys ∨ SqT K H p ys) ∧ Q (.int ys.length) H) (tCons ta tNil)) (tCall (spOrd K) [] E0 (tCons tb tNil)))) σ H0 := fun H s D q =>
  e1 H s _ fun p l H1 s1 ⟨ps, ep, hp⟩ hl => ⟨p, _, rfl, .inr (SqT.of ep), e2 H1 (s.trans s1) _ fun p2 H2 s2 h2 => ⟨p2, t, n, rfl, SqT.of h2, ht, n1, n9, fun L H3 s3 hL _ => by
    have e : l.length = L := Pm.span_one ht hL hl
    refine ⟨rfl, _, rfl, ?_⟩
    have e2 : V.int (((ps.map V.ref).length : Nat) : Int) = V.int ((L : Nat) : Int) := by rw [List.length_map, tups_len hp, e]
    rw [decide_eq_true e2]
    exact q H3 ((s1.trans s2).trans s3)⟩⟩
/-- int(len(told)) % len(part) != 0 -/
theorem ef_mod (e1 : EvR ta σ H0 l) (e2 : EvR tb σ H0 m) (h : m.length ∣ l.length) (h0 : m ≠ []) {r1 : R2} (hr : ∀ (i j : Int) H Q, j ≠ 0 → Q (.int (i.fmod j)) H → r1 (.int i) (.int j) H Q) :
    EvF (tTest (tOp rNe (tOp r1 (tCB (fun xs H Q => (∃ i, xs = [.int i] ∧ Q (.int i) H) ∨ ∃ k, xs = [.bl k] ∧ Q (.int (if k then 1 else 0)) H) (tCons (tCB (fun xs H Q => ∃ p ys, xs = [.ref p] ∧ (SqL K H p ys ∨ SqT K H p ys) ∧ Q (.int ys.length) H) (tCons ta tNil)) tNil))
      (tCB (fun xs H Q => ∃ p ys, xs = [.ref p] ∧ (SqL K H p ys ∨ SqT K H p ys) ∧ Q (.int ys.length) H) (tCons tb tNil))) (tC (.int 0)))) σ H0 := fun H s D q =>
  e1 H s _ fun p H1 s1 ⟨ps, ep, hp⟩ => ⟨p, _, rfl, .inr (SqT.of ep), .inl ⟨_, rfl, e2 H1 (s.trans s1) _ fun p2 H2 s2 ⟨qs, eq, hq⟩ => ⟨p2, _, rfl, .inr (SqT.of eq), hr _ _ _ _ (by
    have : m.length ≠ 0 := fun e => h0 (List.length_eq_zero_iff.mp e)
    rw [List.length_map, tups_len hq]
    omega) ⟨rfl, _, rfl, by
      have e : Int.fmod (((ps.map V.ref).length : Nat) : Int) (((qs.map V.ref).length : Nat) : Int) = 0 := by
        rw [List.length_map, List.length_map, tups_len hp, tups_len hq, Int.fmod_eq_emod_of_nonneg _ (by omega), ← Int.natCast_emod, Nat.mod_eq_zero_of_dvd h]
        rfl
      rw [e, decide_eq_true rfl]
      exact q H2 (s1.trans s2)⟩⟩⟩⟩
theorem seq_if (e : EvF p σ H0) (s : Same H0 H) (q : ∀ H', Same H H' → us D σ H') : tSeq (tIfS p (tRet (tC (.bl false))) tNext) us D σ H := e H s _ fun H' s' => iteF (q H' s')
theorem one_if (e : EvF p σ H0) (s : Same H0 H) (q : ∀ H', Same H H' → D.nx σ H') : tIfS p (tRet (tC (.bl false))) tNext D σ H := e H s _ fun H' s' => iteF (q H' s')
end
end K42

set_option Elab.async false
set_option linter.all false
set_option maxRecDepth 100000
set_option maxHeartbeats 6400000
namespace K42
open PySem L2 Tx Tg Tm Sr
section
variable {K : PySem.W.Frag} {σ : L2.St} {H0 H : Hp} {t u : List Nat} {l m S U : List (List Nat)} {n L : Nat} {ta tb : TE} {x y : V} {p q : TT} {us : TS} {D : Ends}
/-- rows[:r] -/
theorem cut_take (xs : List V) (r : Nat) : cutV xs none (some (r : Int)) = xs.take r := by
  unfold cutV
  rw [HT.sIx_none, HT.sIx_nat, List.drop_zero, Nat.sub_zero]
  by_cases h : r ≤ xs.length
  · rw [Nat.min_eq_left h]
  · rw [Nat.min_eq_right (by omega), List.take_of_length_le (Nat.le_refl _), List.take_of_length_le (by omega)]
theorem tups_take {H : Hp} : ∀ {ps : List Addr} {ts : List (List Nat)} (r : Nat), Tups H ps ts → Tups H (ps.take r) (ts.take r)
  | _, _, _, .nil => by rw [List.take_nil, List.take_nil]; exact .nil
  | _, _, 0, .cons _ _ => .nil
  | _, _, r + 1, .cons h t => .cons h (tups_take r t)
theorem sl_take {Q : VK} {pt : Addr} {r : Nat} (h : Rows H pt S) (q : ∀ p H', Same H H' → Rows H' p (S.take r) → Q (.ref p) H') : rSlA K (.ref pt) none (some (r : Int)) H Q := by
  obtain ⟨ps, e, hp⟩ := h
  have lp := tups_len hp
  refine ⟨pt, ps.map V.ref, rfl, SqT.of e, fun hw => ?_, fun _ p np => ?_⟩
  · have h2 := hw.2
    rw [HT.sIx_nat, List.length_map] at h2
    refine q pt H (Same.refl H) ?_
    rw [List.take_of_length_le (by omega)]
    exact ⟨ps, e, hp⟩
  · rw [cut_take]
    refine q p _ (same_upd np) ⟨ps.take r, by rw [upd_same, List.map_take], tups_upd (.none np) (tups_take r hp)⟩
theorem pick_rows {Q : VK} {c pT : Addr} {k : Nat} (hc : Cup H c) (h0 : σ[0]? = some (some (.ref c))) (hk : σ[k]? = some (some (.ref pT))) (hT : Rows H pT l) (hl : 0 < l.length) (h5 : l.length ≤ 5000)
    (q : ∀ t ∈ l, ∀ p H', Cup H' c → But c H H' → Tup H' p t → Q (.ref p) H') : tCall (spPick K) [] E0 (tCons (tVar 0) (tCons (tVar k) tNil)) σ H Q := by
  obtain ⟨ps, e, hp⟩ := hT
  have lp := tups_len hp
  have nT := hc.noT
  refine ⟨_, h0, _, hk, c, pT, ps.map V.ref, rfl, hc, fun z => nT _ (by rw [← z]; exact e), .inr (SqT.of e), by rw [List.length_map, lp]; exact hl, by rw [List.length_map, lp]; exact h5, fun i hi H2 hc2 b2 => ?_⟩
  have hi2 : i < ps.length := by rw [List.length_map] at hi; exact hi
  obtain ⟨hj, hti⟩ := tups_at hp i hi2
  have ev : (ps.map V.ref)[i] = .ref ps[i] := List.getElem_map ..
  rw [ev]
  exact q l[i] (List.getElem_mem hj) ps[i] H2 hc2 b2 (tup_but nT b2 hti)
theorem seq_asgS {i : Nat} (e : EvS ta σ H0 n S) (s : Same H0 H) (q : ∀ p l H2, Same H H2 → Rows H2 p l → Pm.IsSpan n S l → us D (σ.set i (some (.ref p))) H2) : tSeq (tAsg ta (gName i)) us D σ H := e H s _ q
/-- tuple([undone_turn(turn) for turn in rows]) -/
theorem er_undoneAll {i j : Nat} {a : Addr} (hi : σ[i]? = some (some (.ref a))) (ha : Rows H0 a S) (hS : ∀ s ∈ S, Pm.Turn n s) (n1 : 1 ≤ n) (n9 : n ≤ 12) (lS : S.length ≤ 2000) (hj : ∀ v, ((wipe σ [j]).set j (some v))[j]? = some (some v))
    (hw : ∀ v, wipe ((wipe σ [j]).set j (some v)) [j] = wipe σ [j]) :
    EvR (tCB (fun xs H Q => ∃ p ys, xs = [.ref p] ∧ ((SqL K H p ys ∧ ∀ l, H l = none → Q (.ref l) (upd H l (.tup ys))) ∨ (SqT K H p ys ∧ Q (.ref p) H))) (tCons (tLc (iTup K (tVar i)) (gName j) tYes (tCall (spU K) [] E0 (tCons (tVar j) tNil)) [j]) tNil)) σ H0 (S.map Pm.undone) := fun H s Q q => by
  obtain ⟨ps, ea, hps⟩ := rows_same s ha
  have lps := tups_len hps
  refine ⟨_, hi, a, rfl, ⟨_, SqT.of ea⟩, fun D2 hD => ?_⟩
  refine lc_tup (xs := ps.map V.ref) (fun i H2 => Same H H2 ∧ LstT H2 D2 ((S.take i).map Pm.undone)) ⟨same_upd hD, [], upd_same, .nil⟩ (fun i H2 _ z => SqT.of (z.1 _ _ ea)) ?_ ?_
  · rintro i x H2 hx ⟨s2, qs, e2, hqs⟩
    have hi := (List.getElem?_eq_some_iff.mp hx).1
    rw [List.length_map] at hi
    rw [refs_at hi] at hx
    cases hx
    obtain ⟨hj2, ht⟩ := tups_at (tups_same s2 hps) i hi
    have lq := tups_len hqs
    refine ⟨hw _, iteT (B := False) ⟨_, hj _, ps[i], S[i], n, rfl, SqT.of ht, hS _ (List.getElem_mem hj2), n1, n9, fun p H3 s3 h3 => ?_⟩⟩
    have e3 := s3 _ _ e2
    refine ⟨_, e3, ?_, same_put (s2.trans s3) hD, ?_⟩
    · rw [List.length_map, lq, List.length_map, List.length_take]
      exact Nat.lt_of_le_of_lt (show _ ≤ 2000 by omega) (by decide)
    · rw [List.take_add_one, List.getElem?_eq_getElem hj2, List.map_append]
      exact LstT.add e3 (tups_same s3 hqs) h3
  · rintro H2 ⟨s2, qs, e2, hqs⟩
    rw [List.length_map, List.take_of_length_le (by omega)] at hqs
    exact ⟨D2, _, rfl, .inl ⟨SqL.of e2, fun p np => q p _ (s2.trans (same_upd np)) ⟨qs, upd_same, tups_upd (.none np) hqs⟩⟩⟩
end
abbrev nRight : List Str := ["_law_cup_here", "_law_signs", "_law_moves_here", "_law_some", "_law_points", "_law_told", "_law_again", "_law_one", "_law_other", "_law_part", "_law_sign", "_law_turn"]
/-- what it calls -/
structure Up (P : Program) (w : World) (K : PySem.W.Frag) (mg : Str → Option Value) (base : Heap) (fB fP fV fS fM fJ fU fO : Addr) (dB dP dV dS dM dJ dU dO : FuncData) : Prop where
  DB : Df K mg "_law_bit" sBit ["_law_cup_here", "_law_much"] fB dB
  DP : Df K mg "_law_pick" sPick ["_law_cup_here", "_law_items"] fP dP
  DV : Df K mg "_law_moves" sMoves ["_law_cup_here", "_law_signs"] fV dV
  DS : Df K mg "spanned" sSpanned ["points", "turns"] fS dS
  DMd : Df K mg "_law_made_by" sMade ["_law_points", "_law_some"] fM dM
  DJ : Df K mg "joint" sJ ["one", "other"] fJ dJ
  DU : Df K mg "undone_turn" sU ["turn"] fU dU
  DO : Df K mg "turn_order" sO ["turn"] fO dO
  gb : FnOk P w K mg base CX0 1 fB dB ["_law_cup_here", "_law_much"] spBit
  gp : FnOk P w K mg base CX0 2 fP dP ["_law_cup_here", "_law_items"] (spPick K)
  gv : FnOk P w K mg base CX0 4 fV dV ["_law_cup_here", "_law_signs"] spMoves
  gs : FnOk P w K mg base CX0 4 fS dS ["points", "turns"] spSpanned
  gm : FnOk P w K mg base CX0 2 fM dM ["_law_points", "_law_some"] spMade
  gj : FnOk P w K mg base CX0 5 fJ dJ ["one", "other"] (spJ K)
  gu : FnOk P w K mg base CX0 5 fU dU ["turn"] (spU K)
  go : FnOk P w K mg base CX0 5 fO dO ["turn"] (spOrd K)
def spRight : Sp := fun vs H Q _ => ∃ c : Addr, vs = [.ref c] ∧ Cup H c ∧ ∀ H', But c H H' → Cup H' c → Q (.bl true) H'
theorem scRight : FnScope nRight ["_law_cup_here"] (defScope sRight) := ⟨rfl, rfl, rfl, by decide +kernel, rfl, by decide +kernel, by decide +kernel⟩
theorem signs_ok : ∀ (i : Nat) (h : i < [V.str "abc", V.str "ab", V.str "a"].length), ∃ z : Str, [V.str "abc", V.str "ab", V.str "a"][i] = .str z ∧ (cds z).length ≤ 3 ∧ ∃ x, (cds z)[0]? = some x
  | 0, _ => ⟨"abc", rfl, by decide +kernel, 97, by decide +kernel⟩
  | 1, _ => ⟨"ab", rfl, by decide +kernel, 97, by decide +kernel⟩
  | 2, _ => ⟨"a", rfl, by decide +kernel, 97, by decide +kernel⟩
section
variable {P : Program} {w : World} {K : PySem.W.Frag} {mg : Str → Option Value} {base : Heap}
theorem ok_right {f fB fP fV fS fM fJ fU fO : Addr} {fd dB dP dV dS dM dJ dU dO : FuncData} (F : Fun K "_law_right" "_law_right" sRight f fd) (T : Txt K mg) (G : Up P w K mg base fB fP fV fS fM fJ fU fO dB dP dV dS dM dJ dU dO) :
    Kept P w K mg base CX0 6 f fd ["_law_cup_here"] spRight := by
  refine Kept.fn F scRight (fun vs H Q E h => ?_) (fun cdv A outer s H vs Q E hr still h => ?_)
  · obtain ⟨c, rfl, _⟩ := h
    rfl
  · obtain ⟨c, rfl, hc, q⟩ := h
    have hu := hu_of hr
    have r1 : Room 1 _ := hr.mono (by decide)
    have r2 : Room 2 _ := hr.mono (by decide)
    have r4 : Room 4 _ := hr.mono (by decide)
    refine ⟨_, (pss_cons (ps_set (i := 1) scRight.nd rfl (Or.inl rfl) (pe_call G.gp r2 (by rfl) G.DP.m G.DP.F.kp G.DP.b .nil pass0 (pa_cons (pv 0) (pa_cons (pe_lst (pa_cons pe_str (pa_cons pe_str (pa_cons pe_str pa_nil)))) pa_nil))))
      (pss_cons (ps_set (i := 2) scRight.nd rfl (Or.inr rfl) (pe_call G.gv r4 (by rfl) G.DV.m G.DV.F.kp G.DV.b .nil pass0 (pa_cons (pv 0) (pa_cons (pv 1) pa_nil))))
      (pss_cons (ps_set (i := 3) scRight.nd rfl (Or.inl rfl) (pe_slice sl_tupA (pe_callTy call_tuple_of (by rfl) T.tuple (by decide +kernel) (pa_cons (pe_lc (own := [("_law_sign", 10)]) (g := gName 10) (tt := tYes)  rfl scRight.nd (pi_str (pv 1)) (blkOk_by (own := [("_law_sign", 10)]) (N := nRight) (sc := defScope sRight) (by decide +kernel)) (fun _ _ _ _ _ => pg_name (i := 10) scRight.nd rfl (Or.inl rfl)) (fun _ _ _ _ _ => pts_nil) (fun _ _ _ _ _ => pe_dget hu (pv 2) (pv 10) (fun _ _ => rfl))) pa_nil)) po_none (po_some (pe_call G.gb r1 (by rfl) G.DB.m G.DB.F.kp G.DB.b .nil pass0 (pa_cons (pv 0) (pa_cons pe_int pa_nil))))))
      (pss_cons (ps_set (i := 4) scRight.nd rfl (Or.inl rfl) (pe_callB call_len_seq (by rfl) T.len PySem.boot_len (pa_cons (pe_dget hu (pv 2) (pe_ix ix_str (pv 1) pe_int (fun _ _ => rfl)) (fun _ _ => rfl)) pa_nil)))
      (pss_cons (ps_set (i := 5) scRight.nd rfl (Or.inr rfl) (pe_call G.gs r4 (by rfl) G.DS.m G.DS.F.kp G.DS.b .nil pass0 (pa_cons (pv 4) (pa_cons (pv 3) pa_nil))))
      (pss_cons (ps_if (PW.pt (pw_or (pt_cmpR op_ne (pe_callB (call_show still hr.units) (by rfl) T.repr (by decide +kernel) (pa_cons (pv 5) pa_nil)) (pe_callB (call_show still hr.units) (by rfl) T.repr (by decide +kernel) (pa_cons (pe_callTy call_tuple_of (by rfl) T.tuple (by decide +kernel) (pa_cons (pe_call G.gm r2 (by rfl) G.DMd.m G.DMd.F.kp G.DMd.b .nil pass0 (pa_cons (pv 4) (pa_cons (pv 3) pa_nil))) pa_nil)) pa_nil)) (nomark _)) (pw_or1 (pt_cmpR (op_notInT hr.units) (pe_tupRg rfl (by rfl) T.tuple (prg_1 (by rfl) T.range (pv 4))) (pv 5) (by rfl))))) (pss_one (ps_ret pe_bl)) pss_nil)
      (pss_cons (ps_if (PW.pt (pw_or (pt_cmpR (op_neD hr.units) (pe_lc (own := [("_law_turn", 11)]) (g := gName 11) (tt := tTest (tOp (rInT true) (tVar 11) (tVar 5))) (te := tVar 11) rfl scRight.nd (pi_tup (pv 3)) (blkOk_by (own := [("_law_turn", 11)]) (N := nRight) (sc := defScope sRight) (by decide +kernel)) (fun _ _ _ _ _ => pg_name (i := 11) scRight.nd rfl (Or.inl rfl)) (fun _ _ _ _ _ => pts_one (pt_cmpR (op_notInT hr.units) (pv 11) (pv 5) (by rfl))) (fun _ _ _ _ _ => pv 11)) (pe_lst pa_nil) (nomark _)) (pw_or (pt_cmpR (op_neD hr.units) (pe_call G.gs r4 (by rfl) G.DS.m G.DS.F.kp G.DS.b .nil pass0 (pa_cons (pv 4) (pa_cons (pv 5) pa_nil))) (pv 5) (nomark _)) (pw_or1 (pt_cmpR (op_neD hr.units) (pe_call G.gs r4 (by rfl) G.DS.m G.DS.F.kp G.DS.b .nil pass0 (pa_cons (pv 4) (pa_cons (pe_op op_catA (pv 3) (pv 3)) pa_nil))) (pv 5) (nomark _)))))) (pss_one (ps_ret pe_bl)) pss_nil)
      (pss_cons (ps_for PassesOwn.never rfl (pi_range1 rfl T.range (pa_cons pe_int pa_nil)) (pg_name (i := 6) scRight.nd rfl (Or.inl rfl))
        (pss_cons (ps_par (i := 7) (j := 8) (by rfl) scRight.nd rfl rfl (by decide) rfl rfl (pa_cons (pe_call G.gp r2 (by rfl) G.DP.m G.DP.F.kp G.DP.b .nil pass0 (pa_cons (pv 0) (pa_cons (pv 5) pa_nil))) (pa_cons (pe_call G.gp r2 (by rfl) G.DP.m G.DP.F.kp G.DP.b .nil pass0 (pa_cons (pv 0) (pa_cons (pv 5) pa_nil))) pa_nil)) (by rfl))
        (pss_cons (ps_if (PW.pt (pw_or (pt_cmpR (op_notInT hr.units) (pe_call G.gj hr (by rfl) G.DJ.m G.DJ.F.kp G.DJ.b .nil pass0 (pa_cons (pv 7) (pa_cons (pv 8) pa_nil))) (pv 5) (by rfl)) (pw_or (pt_cmpR (op_notInT hr.units) (pe_call G.gu hr (by rfl) G.DU.m G.DU.F.kp G.DU.b .nil pass0 (pa_cons (pv 7) pa_nil)) (pv 5) (by rfl)) (pw_or1 (pt_cmpR op_ne (pe_callB call_len_seq (by rfl) T.len PySem.boot_len (pa_cons (pe_call G.gs r4 (by rfl) G.DS.m G.DS.F.kp G.DS.b .nil pass0 (pa_cons (pv 4) (pa_cons (pe_tup (pa_cons (pv 7) pa_nil)) pa_nil))) pa_nil)) (pe_call G.go hr (by rfl) G.DO.m G.DO.F.kp G.DO.b .nil pass0 (pa_cons (pv 7) pa_nil)) (nomark _)))))) (pss_one (ps_ret pe_bl)) pss_nil)
        (pss_cons (ps_set (i := 9) scRight.nd rfl (Or.inl rfl) (pe_call G.gs r4 (by rfl) G.DS.m G.DS.F.kp G.DS.b .nil pass0 (pa_cons (pv 4) (pa_cons (pe_tup (pa_cons (pv 7) (pa_cons (pv 8) pa_nil))) pa_nil))))
        (pss_one (ps_if (PW.pt (pw_or (pt_cmpR (op_neD hr.units) (pe_lc (own := [("_law_turn", 11)]) (g := gName 11) (tt := tTest (tOp (rInT true) (tVar 11) (tVar 5))) (te := tVar 11) rfl scRight.nd (pi_tup (pv 9)) (blkOk_by (own := [("_law_turn", 11)]) (N := nRight) (sc := defScope sRight) (by decide +kernel)) (fun _ _ _ _ _ => pg_name (i := 11) scRight.nd rfl (Or.inl rfl)) (fun _ _ _ _ _ => pts_one (pt_cmpR (op_notInT hr.units) (pv 11) (pv 5) (by rfl))) (fun _ _ _ _ _ => pv 11)) (pe_lst pa_nil) (nomark _)) (pw_or1 (pt_cmpR op_ne (pe_op op_modN (pe_callTy call_int1 (by rfl) T.int (by decide +kernel) (pa_cons (pe_callB call_len_seq (by rfl) T.len PySem.boot_len (pa_cons (pv 5) pa_nil)) pa_nil)) (pe_callB call_len_seq (by rfl) T.len PySem.boot_len (pa_cons (pv 9) pa_nil))) pe_int (nomark _))))) (pss_one (ps_ret pe_bl)) pss_nil))))))
      (pss_one (ps_ret (pe_cmpR (op_eqD hr.units) (pe_call G.gs r4 (by rfl) G.DS.m G.DS.F.kp G.DS.b .nil pass0 (pa_cons (pv 4) (pa_cons (pe_callTy call_tuple_of (by rfl) T.tuple (by decide +kernel) (pa_cons (pe_lc (own := [("_law_turn", 11)]) (g := gName 11) (tt := tYes) (te := tCall (spU K) [] E0 (tCons (tVar 11) tNil)) rfl scRight.nd (pi_tup (pv 3)) (blkOk_by (own := [("_law_turn", 11)]) (N := nRight) (sc := defScope sRight) (by decide +kernel)) (fun _ _ _ _ _ => pg_name (i := 11) scRight.nd rfl (Or.inl rfl)) (fun _ _ _ _ _ => pts_nil) (fun _ _ _ _ _ => (pe_call G.gu hr (by rfl) G.DU.m G.DU.F.kp G.DU.b .nil pass0 (pa_cons (pv 11) pa_nil)))) pa_nil)) pa_nil))) (pv 5) (nomark _)))))))))))), ?_⟩
    refine ⟨_, rfl, (by show 3 ≤ sizeLine; decide), fun L nL => ?_⟩
    refine ⟨c, L, [V.str "abc", V.str "ab", V.str "a"], rfl, hc.same (same_upd nL), (hc.ne nL), .inl (SqL.of upd_same), (by show 0 < 3; decide), (by show 3 ≤ 5000; decide), fun i hi H1 hc1 b1 => ?_⟩
    obtain ⟨z, ez, z3, x0, hx0⟩ := signs_ok i hi
    rw [ez]
    clear ez
    have b01 := (But.of (c := c) (same_upd (o := .lst [V.str "abc", V.str "ab", V.str "a"]) nL)).trans b1
    clear b1
    refine ⟨_, rfl, _, rfl, c, z, rfl, hc1, by omega, fun d n U H2 hc2 b2 hm hC n1 n12 => ?_⟩
    obtain ⟨kvs, ed, hkv⟩ := id hm
    refine ⟨_, rfl, z, rfl, fun D hD => ?_⟩
    refine lc_text (fun i H3 => Same H2 H3 ∧ ∃ S0 : List (List Nat), LstT H3 D S0 ∧ S0.length = i ∧ ∀ s ∈ S0, s ∈ U) ⟨same_upd hD, [], ⟨[], upd_same, .nil⟩, rfl, fun s h => nomatch h⟩ ?_ ?_
    · rintro i x H3 hx ⟨s3, S0, ⟨ps, e3, hps⟩, l3, hU⟩
      have hi := (List.getElem?_eq_some_iff.mp hx).1
      obtain ⟨px, tx, ev, ht, htU⟩ := hkv x (List.mem_of_getElem? hx)
      have g := DGet.k (k := (Sum.inr (one x) : Key)) (s3 _ _ ed)
      rw [ev] at g
      have lp := tups_len hps
      refine ⟨rfl, iteT (B := False) ?_⟩
      refine ⟨_, rfl, _, rfl, d, _, rfl, g, ?_⟩
      refine ⟨_, e3, ?_, same_put s3 hD, S0 ++ [tx], LstT.add e3 hps (s3 _ _ ht), by rw [List.length_append, l3]; rfl, fun s hs => ?_⟩
      · rw [List.length_map, lp, l3]
        exact Nat.lt_of_le_of_lt (show i ≤ 100 by omega) (by decide)
      · rcases List.mem_append.mp hs with hs | hs
        · exact hU s hs
        · rw [List.mem_singleton.mp hs]
          exact htU
    rintro H3 ⟨s3, S0, ⟨ps, e3, hps⟩, l3, hU⟩
    refine ⟨D, _, rfl, .inl ⟨SqL.of e3, fun pt npt => ?_⟩⟩
    have s4 := s3.trans (same_upd (o := .tup (ps.map V.ref)) npt)
    have h4 : Rows (upd H3 pt (.tup (ps.map V.ref))) pt S0 := ⟨ps, upd_same, tups_upd (.none npt) hps⟩
    have hc4 := hc2.same s4
    generalize upd H3 pt (.tup (ps.map V.ref)) = H4 at s4 h4 hc4 ⊢
    refine ⟨_, rfl, c, 4, rfl, hc4, by decide, nat9 (by decide), fun r H5 r0 r4' hc5 b5 => ?_⟩
    obtain ⟨r, rfl⟩ : ∃ k : Nat, r = (k : Int) := ⟨r.toNat, by omega⟩
    refine ⟨_, rfl, ?_⟩
    refine sl_take (r := r) (rows_but hc4.noT b5 h4) fun pS H6 s6 h6 => ?_
    have hUS : ∀ s ∈ S0.take r, s ∈ U := fun s hs => hU s (List.mem_of_mem_take hs)
    have lS : (S0.take r).length ≤ 3 := by
      rw [List.length_take]
      omega
    generalize S0.take r = S at h6 hUS lS ⊢
    have b46 := b5.trans (But.of s6)
    have b26 := (But.of s4).trans b46
    have hc6 := hc5.same s6
    have ndc : d ≠ c := by
      obtain ⟨_, _, _, e⟩ := hc2
      exact ne_of ed e (by intro z; cases z)
    obtain ⟨p0, t0, ev0, ht0, htU0⟩ := hkv x0 (List.mem_of_getElem? hx0)
    have g0 := DGet.k (k := (Sum.inr (one x0) : Key)) (b26 _ _ ndc ed)
    rw [ev0] at g0
    have t06 := tup_but hc2.noT b26 ht0
    refine ⟨_, rfl, _, rfl, z, 0, x0, rfl, rfl, Nat.le_trans (show (cds z).length ≤ 3 from z3) (by decide), atI_nat (j := 0) hx0, d, _, rfl, g0, p0, _, rfl, .inr (SqT.of t06), ?_⟩
    have en : (nats t0).length = n := by rw [List.length_map]; exact (hC.turn t0 htU0).len
    rw [en]
    clear en
    have few : Pm.Few n S U := hC.few hUS
    have lU := hC.ln
    refine ⟨_, rfl, _, rfl, pS, n, S, U, rfl, h6, few, by omega, n1, by omega, by omega, fun pT l H7 s7 hT hl => ?_⟩
    have hS7 := rows_same s7 h6
    have hc7 := hc6.same s7
    have b07 := ((b01.trans b2).trans b26).trans (But.of s7)
    show tSeq _ _ _ [some (.ref c), some (.str z), some (.ref d), some (.ref pS), some (.int (n : Int)), some (.ref pT), none, none, none, none, none, none] H7
    clear hkv hm ed b26 b46 g0 t06 ht0
    have n60 : n ≤ 60 := by omega
    have tS := few.1
    have tl : ∀ t ∈ l, Pm.Turn n t := fun t ht => ((hl.mem t).mp ht).turn tS
    have ll : l.length ≤ 256 := Nat.le_trans (Pm.nodup_len hl.nd fun x hx => few.2 x ((hl.mem x).mp hx)) lU
    have h1l : List.range n ∈ l := (hl.mem _).mpr .one
    have sub : ∀ s ∈ S, s ∈ l := fun s hs => (hl.mem s).mpr (.of tS hs)
    have few1 : Pm.Few n l U := few.trans fun s hs => (hl.mem s).mp hs
    have eqL : ∀ x, Pm.Gen n l x ↔ Pm.Gen n S x := fun x => ⟨fun g => g.trans tS fun s hs => (hl.mem s).mp hs, fun g => g.mono sub⟩
    have eqSS : ∀ x, Pm.Gen n (S ++ S) x ↔ Pm.Gen n S x := fun x => ⟨fun g => g.mono fun s hs => (List.mem_append.mp hs).elim id id, fun g => g.mono fun s hs => List.mem_append_left _ hs⟩
    have few2 : Pm.Few n (S ++ S) U := few.trans fun s hs => .of tS ((List.mem_append.mp hs).elim id id)
    have C6 : EvF _ [some (.ref c), some (.str z), some (.ref d), some (.ref pS), some (.int (n : Int)), some (.ref pT), none, none, none, none, none, none] H7 :=
      ef_or (ef_ne (ev_showR (K := K) (er_var (i := 5) rfl hT) tl n60 (by omega)) (ev_showR (K := K) (er_tuple (K := K) (el_made (S' := S) (ev_var (i := 4) rfl) (er_var (i := 3) rfl hS7) few (by omega) n1 n60 hl)) tl n60 (by omega)) rfl)
        (ef_notIn (et_still (i := 4) rfl n60) (er_var (i := 5) rfl hT) h1l)
    refine seq_if C6 (Same.refl H7) fun H8 s8 => ?_
    clear C6
    have C7 : EvF _ [some (.ref c), some (.str z), some (.ref d), some (.ref pS), some (.int (n : Int)), some (.ref pT), none, none, none, none, none, none] H7 :=
      ef_or (ef_comp (K := K) (i := 3) (j := 11) (k := 5) rfl hS7 hT sub (fun _ => rfl) (fun _ => rfl) (fun _ => rfl))
        (ef_or (ef_neR (K := K) ((es_spanned (ev_var (i := 4) rfl) (er_var (i := 5) rfl hT) few1 (by omega) n1 n60 (by omega)).toR hl eqL) (er_var (i := 5) rfl hT) rfl)
          (ef_neR (K := K) ((es_spanned (ev_var (i := 4) rfl) (er_cat (K := K) (er_var (i := 3) rfl hS7) (er_var (i := 3) rfl hS7) (by omega) (by omega)) few2 (by omega) n1 n60 (by rw [List.length_append]; omega)).toR hl eqSS) (er_var (i := 5) rfl hT) rfl))
    refine seq_if C7 s8 fun H9 s9 => ?_
    clear C7
    have s79 := s8.trans s9
    have hT9 := rows_same s79 hT
    have hS9 := rows_same s79 hS7
    have hc9 := hc7.same s79
    have b09 := b07.trans (But.of s79)
    refine ⟨4, rfl, by decide, by decide, ?_⟩
    refine for_range (n := 4) (fun i σ H => ∃ t6 t7 t8 t9 : Option V, σ = [some (.ref c), some (.str z), some (.ref d), some (.ref pS), some (.int (n : Int)), some (.ref pT), t6, t7, t8, t9, none, none] ∧ Cup H c ∧ But c H9 H)
      ⟨none, none, none, none, rfl, hc9, But.refl _ _⟩ ?_ ?_
    · rintro i σ Ha hi ⟨t6, t7, t8, t9, rfl, hca, ba⟩
      have lp : 0 < l.length := List.length_pos_of_mem h1l
      have hTa := rows_but hc9.noT ba hT9
      refine pick_rows (K := K) (k := 5) hca rfl rfl hTa lp (by omega) fun t1 m1 p1 Hb hcb bb hp1 => ?_
      have hTb := rows_but hca.noT bb hTa
      refine pick_rows (K := K) (k := 5) hcb rfl rfl hTb lp (by omega) fun t2 m2 p2 Hd hcd bd hp2 => ?_
      have hTd := rows_but hcb.noT bd hTb
      have hp1' := tup_but hcb.noT bd hp1
      refine ⟨_, _, rfl, ?_⟩
      show tSeq _ _ _ [some (.ref c), some (.str z), some (.ref d), some (.ref pS), some (.int (n : Int)), some (.ref pT), some (.int (0 + (i : Int))), some (.ref p1), some (.ref p2), t9, none, none] Hd
      have h1 := tl t1 m1
      have h2 := tl t2 m2
      have g1 := (hl.mem t1).mp m1
      have g2 := (hl.mem t2).mp m2
      have mj : Pm.joint t1 t2 ∈ l := (hl.mem _).mpr (g1.mul tS g2)
      have mu : Pm.undone t1 ∈ l := (hl.mem _).mpr (g1.undone few)
      have fewA : Pm.Few n [t1] U := few.trans fun s hs => by rw [List.mem_singleton.mp hs]; exact g1
      have h12 : ∀ s ∈ [t1, t2], Pm.Gen n S s := fun s hs => by
        rcases List.mem_cons.mp hs with rfl | hs
        · exact g1
        · rw [List.mem_singleton.mp hs]
          exact g2
      have fewB : Pm.Few n [t1, t2] U := few.trans h12
      have C8 : EvF _ [some (.ref c), some (.str z), some (.ref d), some (.ref pS), some (.int (n : Int)), some (.ref pT), some (.int (0 + (i : Int))), some (.ref p1), some (.ref p2), t9, none, none] Hd :=
        ef_or (ef_notIn (et_joint (K := K) (et_var (i := 7) rfl hp1') (et_var (i := 8) rfl hp2) h1 h2 n1 n12) (er_var (i := 5) rfl hTd) mj)
          (ef_or (ef_notIn (et_undone (K := K) (et_var (i := 7) rfl hp1') h1 n1 n12) (er_var (i := 5) rfl hTd) mu)
            (ef_lenOrd (K := K) (es_spanned (ev_var (i := 4) rfl) (er_one (et_var (i := 7) rfl hp1')) fewA (by omega) n1 n60 (by show 1 ≤ 2000; decide)) (et_var (i := 7) rfl hp1') h1 n1 n12))
      refine seq_if C8 (Same.refl Hd) fun He se => ?_
      clear C8
      refine seq_asgS (es_spanned (ev_var (i := 4) rfl) (er_two (et_var (i := 7) rfl hp1') (et_var (i := 8) rfl hp2)) fewB (by omega) n1 n60 (by show 2 ≤ 2000; decide)) se fun pP lP Hf sf hP hlP => ?_
      have sdf := se.trans sf
      have hTf := rows_same sdf hTd
      have hcf := hcd.same sdf
      have subP : ∀ t ∈ lP, t ∈ l := fun t ht => (hl.mem t).mpr (((hlP.mem t).mp ht).trans tS h12)
      have dvd : lP.length ∣ l.length := Pm.span_dvd few hl hlP h12
      have neP : lP ≠ [] := fun e => by
        have : List.range n ∈ lP := (hlP.mem _).mpr .one
        rw [e] at this
        exact nomatch this
      have C9 : EvF _ [some (.ref c), some (.str z), some (.ref d), some (.ref pS), some (.int (n : Int)), some (.ref pT), some (.int (0 + (i : Int))), some (.ref p1), some (.ref p2), some (.ref pP), none, none] Hf :=
        ef_or (ef_comp (K := K) (i := 9) (j := 11) (k := 5) rfl hP hTf subP (fun _ => rfl) (fun _ => rfl) (fun _ => rfl))
          (ef_mod (K := K) (r1 := rI (fun _ j => j ≠ 0) fun i j => .int (i.fmod j)) (er_var (i := 5) rfl hTf) (er_var (i := 9) rfl hP) dvd neP fun i j H Q h0 q => ⟨i, j, rfl, rfl, h0, q⟩)
      refine one_if C9 (Same.refl Hf) fun Hg sg => ?_
      exact ⟨_, _, _, _, rfl, hcf.same sg, ((ba.trans bb).trans bd).trans (But.of (sdf.trans sg))⟩
    · rintro σ Ha ⟨t6, t7, t8, t9, rfl, hca, ba⟩
      have hTa := rows_but hc9.noT ba hT9
      have hSa := rows_but hc9.noT ba hS9
      have fewU : Pm.Few n (S.map Pm.undone) U := few.trans fun s hs => by
        obtain ⟨t, ht, rfl⟩ := List.mem_map.mp hs
        exact (Pm.Gen.of tS ht).undone few
      exact ev_eqR (K := K) ((es_spanned (ev_var (i := 4) rfl) (er_undoneAll (K := K) (i := 3) (j := 11) rfl hSa tS n1 n12 (by omega) (fun _ => rfl) (fun _ => rfl)) fewU (by omega) n1 n60 (by rw [List.length_map]; omega)).toR hl fun x => Pm.gen_undone few) (er_var (i := 5) rfl hTa) rfl Ha (Same.refl Ha) _ fun Hb sb =>
        q Hb ((b09.trans ba).trans (But.of sb)) (hca.same sb)
end
end K42

set_option Elab.async false
set_option linter.all false
set_option maxRecDepth 100000
set_option maxHeartbeats 6400000
namespace K42
open PySem L2 Tx Tg Tm Sr
/-! ### readings that give data -/
section
variable (K : PySem.W.Frag)
def EvD (t : TE) (σ : L2.St) (H0 : Hp) (d : PyData) : Prop := ∀ H, Same H0 H → ∀ Q : VK, (∀ v H', Same H H' → (∀ H'', Same H' H'' → Dp K H'' v d) → Q v H') → t σ H Q
def EvDs (t : TA) (σ : L2.St) (H0 : Hp) (ds : List PyData) : Prop := ∀ H, Same H0 H → ∀ Q : List V → Hp → Prop, (∀ xs H', Same H H' → (∀ H'', Same H' H'' → DpAll K H'' xs ds) → Q xs H') → t σ H Q
end
theorem dpAll_len {K : PySem.W.Frag} {H : Hp} : ∀ {xs : List V} {ds : List PyData}, DpAll K H xs ds → xs.length = ds.length
  | _, _, .nil => rfl
  | _, _, .cons _ h => congrArg (· + 1) (dpAll_len h)
section
variable {K : PySem.W.Frag} {σ : L2.St} {H0 H : Hp} {n k : Nat} {t t1 t2 tn : TE} {m : Int} {ta : TA} {d : PyData} {ds : List PyData} {l : List (List Nat)}
theorem ed_R (e : EvR t σ H0 l) : EvD K t σ H0 (.tuple (tupsD l)) := fun H s Q q => e H s _ fun p H1 s1 h1 => q _ H1 s1 fun H2 s2 => dp_rows (rows_same s2 h1)
theorem ed_I (e : EvV t σ H0 (.int m)) : EvD K t σ H0 (.int m) := fun H s Q q => e H s _ fun H1 s1 => q _ H1 s1 fun _ _ => .int _
theorem ed_nil : EvDs K tNil σ H0 [] := fun H s Q q => q [] H (Same.refl H) fun _ _ => .nil
theorem ed_cons (e1 : EvD K t1 σ H0 d) (e2 : EvDs K ta σ H0 ds) : EvDs K (tCons t1 ta) σ H0 (d :: ds) := fun H s Q q => e1 H s _ fun v H1 s1 h1 => e2 H1 (s.trans s1) _ fun xs H2 s2 h2 => q _ H2 (s1.trans s2) fun H3 s3 => .cons (h1 H3 (s2.trans s3)) (h2 H3 s3)
theorem ed_lst (e : EvDs K ta σ H0 ds) (hl : ds.length ≤ 10) : EvD K (tLst ta) σ H0 (.list ds) := fun H s Q q => e H s _ fun xs H1 s1 h1 =>
  ⟨by rw [dpAll_len (h1 H1 (Same.refl H1))]; exact Nat.le_trans hl (by decide), fun p np => q _ _ (s1.trans (same_upd np)) fun H2 s2 => .lst (SqL.of (s2 _ _ upd_same)) (h1 H2 ((same_upd np).trans s2))⟩
theorem seq_asgD {i : Nat} {u : TS} {D : Ends} (e : EvD K t σ H0 d) (s : Same H0 H) (q : ∀ v H2, Same H H2 → (∀ H3, Same H2 H3 → Dp K H3 v d) → u D (σ.set i (some v)) H2) : tSeq (tAsg t (gName i)) u D σ H := e H s _ fun v H1 s1 h1 => q v H1 s1 h1
theorem ed_var {i : Nat} {v : V} (hi : σ[i]? = some (some v)) (hv : ∀ H3, Same H0 H3 → Dp K H3 v d) : EvD K (tVar i) σ H0 d := fun H s Q q => ⟨_, hi, q v H (Same.refl H) fun H2 s2 => hv H2 (s.trans s2)⟩
theorem ret_eq {D : Ends} (s : Same H0 H) (e1 : EvD K t1 σ H0 d) (e2 : EvD K t2 σ H0 d) (h1 : SeqAt.shaped d = true) (h2 : PyData.eqv d d = true) (q : ∀ H', D.rt (.bl true) H') : tRet (tOp (rEqD K) t1 t2) D σ H := by
  refine e1 H s _ fun v1 H1 s1 hv1 => e2 H1 (s.trans s1) _ fun v2 H2 s2 hv2 => ?_
  refine ⟨d, d, hv1 _ s2, hv2 _ (Same.refl _), h1, h1, ?_⟩
  rw [h2]
  exact q H2
theorem er_lit (ts : List (List Nat)) (h5 : ts.length ≤ 100) (hl : ∀ t ∈ ts, t.length ≤ 100) : EvR (tTup (tsT ts)) σ H0 ts := fun H s Q q => by
  refine tsT_ok ts H _ hl fun ps H1 s1 h1 => ⟨?_, fun p np => ?_⟩
  · rw [List.length_map, tups_len h1]
    exact Nat.le_trans h5 (by decide)
  · exact q p _ (s1.trans (same_upd np)) ⟨ps, upd_same, tups_upd (.none np) h1⟩
end
/-! ### the told spans -/
theorem told1 : Pm.IsSpan 3 [[1, 2, 0]] [[0, 1, 2], [1, 2, 0], [2, 0, 1]] := Pm.told_span (k := 3) (by decide +kernel)
theorem told2 : Pm.IsSpan 3 [[1, 0, 2], [0, 2, 1]] [[0, 1, 2], [0, 2, 1], [1, 0, 2], [1, 2, 0], [2, 0, 1], [2, 1, 0]] := Pm.told_span (k := 5) (by decide +kernel)
theorem told3 : Pm.IsSpan 2 [] [[0, 1]] := Pm.told_span (k := 0) (by decide +kernel)
theorem told4 : Pm.IsSpan 4 [[1, 2, 3, 0], [1, 0, 2, 3]] [[0, 1, 2, 3], [0, 1, 3, 2], [0, 2, 1, 3], [0, 2, 3, 1], [0, 3, 1, 2], [0, 3, 2, 1], [1, 0, 2, 3], [1, 0, 3, 2], [1, 2, 0, 3], [1, 2, 3, 0], [1, 3, 0, 2], [1, 3, 2, 0], [2, 0, 1, 3], [2, 0, 3, 1], [2, 1, 0, 3], [2, 1, 3, 0], [2, 3, 0, 1], [2, 3, 1, 0], [3, 0, 1, 2], [3, 0, 2, 1], [3, 1, 0, 2], [3, 1, 2, 0], [3, 2, 0, 1], [3, 2, 1, 0]] := Pm.told_span (k := 10) (by decide +kernel)
def turnsB (n : Nat) (S : List (List Nat)) : Bool := S.all fun s => decide (s.Perm (List.range n))
theorem few_told {n : Nat} {S l : List (List Nat)} (h : Pm.IsSpan n S l) (hS : turnsB n S = true) : Pm.Few n S l := ⟨fun s hs => (of_decide_eq_true (List.all_eq_true.mp hS s hs) : s.Perm (List.range n)), fun x g => (h.mem x).mpr g⟩
theorem er_spl {K : PySem.W.Frag} {σ : L2.St} {H0 : Hp} {n : Nat} {S l : List (List Nat)} (h : Pm.IsSpan n S l) (hS : turnsB n S = true) (hl : l.length ≤ 2000) (n1 : 1 ≤ n) (n9 : n ≤ 60) (lS : S.length ≤ 100) (tS : ∀ t ∈ S, t.length ≤ 100) :
    EvR (tCall spSpanned [] E0 (tCons (tC (.int (n : Int))) (tCons (tTup (tsT S)) tNil))) σ H0 l := (es_spanned ev_c (er_lit S lS tS) (few_told h hS) hl n1 n9 (by omega)).toR h fun _ => Iff.rfl
abbrev dTold : List PyData := [.tuple (tupsD [[0, 1, 2], [1, 2, 0], [2, 0, 1]]), .int 6, .tuple (tupsD [[0, 1]]), .int 24]
theorem told_sh : SeqAt.shaped (.list dTold) = true := by decide +kernel
theorem told_eq : PyData.eqv (.list dTold) (.list dTold) = true := by decide +kernel
abbrev nLaw : List Str := ["_law_script", "_law_at", "_law_cup_here", "_law_told"]
def spLaw (K : PySem.W.Frag) : Sp := fun vs H Q _ => ∃ (a : Addr) (ns : List Int), vs = [.ref a] ∧ SqL K H a (ns.map V.int) ∧ ns.length ≤ 63 ∧ ∀ H', Q (.bl true) H'
theorem scLaw : FnScope nLaw ["_law_script"] (defScope sLaw) := ⟨rfl, rfl, rfl, by decide +kernel, rfl, by decide +kernel, by decide +kernel⟩
section
variable {P : Program} {w : World} {K : PySem.W.Frag} {mg : Str → Option Value} {base : Heap}
theorem ok_law {f fC fR fB fP fV fS fM fJ fU fO : Addr} {fd dC dR dB dP dV dS dM dJ dU dO : FuncData} (F : Fun K "law" "law" sLaw f fd) (T : Txt K mg) (G : Up P w K mg base fB fP fV fS fM fJ fU fO dB dP dV dS dM dJ dU dO)
    (GC : FnOk P w K mg base CX0 1 fC dC ["_law_script", "_law_at"] (spCup K)) (GR : Kept P w K mg base CX0 6 fR dR ["_law_cup_here"] spRight) (DC : Df K mg "_law_cup" sCup ["_law_script", "_law_at"] fC dC) (DR : Df K mg "_law_right" sRight ["_law_cup_here"] fR dR) :
    Kept P w K mg base CX0 7 f fd ["_law_script"] (spLaw K) := by
  refine Kept.fn F scLaw (fun vs H Q E h => ?_) (fun cdv A outer s H vs Q E hr still h => ?_)
  · obtain ⟨a, ns, rfl, _⟩ := h
    rfl
  · obtain ⟨a, ns, rfl, hS, hlen, q⟩ := h
    have r1 : Room 1 _ := hr.mono (by decide)
    have r4 : Room 4 _ := hr.mono (by decide)
    refine ⟨_, pss_cons (ps_for PassesOwn.never rfl (pi_range1 rfl T.range (pa_cons (pe_callB (call_max2 rfl) (by rfl) T.max (by decide +kernel) (pa_cons pe_int (pa_cons (pe_callB (call_min2 rfl) (by rfl) T.min (by decide +kernel) (pa_cons pe_int (pa_cons
          (pe_callB call_len (by rfl) T.len PySem.boot_len (pa_cons (pv 0) pa_nil)) pa_nil))) pa_nil))) pa_nil)) (pg_name (i := 1) scLaw.nd rfl (Or.inl rfl))
        (pss_cons (ps_set (i := 2) scLaw.nd rfl (Or.inl rfl) (pe_call GC r1 (by rfl) DC.m DC.F.kp DC.b .nil pass0 (pa_cons (pv 0) (pa_cons (pv 1) pa_nil))))
        (pss_one (ps_if (PW.pt (pw_or (pt_not (pt_val (pe_callG GR hr still (by rfl) DR.m DR.F.kp DR.b .nil pass0 (pa_cons (pv 2) pa_nil)))) (pw_or1 (pt_not (pt_val (pe_callG GR hr still (by rfl) DR.m DR.F.kp DR.b .nil pass0 (pa_cons (pv 2) pa_nil))))))) (pss_one (ps_ret pe_bl)) pss_nil))))
      (pss_cons (ps_set (i := 3) scLaw.nd rfl (Or.inl rfl) (pe_lst (pa_cons (pe_call G.gs r4 (by rfl) G.DS.m G.DS.F.kp G.DS.b .nil pass0 (pa_cons pe_int (pa_cons (pe_tup (pa_cons (pe_tup (pa_cons pe_int (pa_cons pe_int (pa_cons pe_int pa_nil)))) pa_nil)) pa_nil))) (pa_cons (pe_callB call_len_seq (by rfl) T.len PySem.boot_len (pa_cons (pe_call G.gs r4 (by rfl) G.DS.m G.DS.F.kp G.DS.b .nil pass0 (pa_cons pe_int (pa_cons (pe_tup (pa_cons (pe_tup (pa_cons pe_int (pa_cons pe_int (pa_cons pe_int pa_nil)))) (pa_cons (pe_tup (pa_cons pe_int (pa_cons pe_int (pa_cons pe_int pa_nil)))) pa_nil))) pa_nil))) pa_nil)) (pa_cons (pe_call G.gs r4 (by rfl) G.DS.m G.DS.F.kp G.DS.b .nil pass0 (pa_cons pe_int (pa_cons (pe_tup pa_nil) pa_nil))) (pa_cons (pe_callB call_len_seq (by rfl) T.len PySem.boot_len (pa_cons (pe_call G.gs r4 (by rfl) G.DS.m G.DS.F.kp G.DS.b .nil pass0 (pa_cons pe_int (pa_cons (pe_tup (pa_cons (pe_tup (pa_cons pe_int (pa_cons pe_int (pa_cons pe_int (pa_cons pe_int pa_nil))))) (pa_cons (pe_tup (pa_cons pe_int (pa_cons pe_int (pa_cons pe_int (pa_cons pe_int pa_nil))))) pa_nil))) pa_nil))) pa_nil)) pa_nil))))))
      (pss_one (ps_ret (pe_cmpR (op_eqD hr.units) (pv 3) (pe_lst (pa_cons (pe_tup (pa_cons (pe_tup (pa_cons pe_int (pa_cons pe_int (pa_cons pe_int pa_nil)))) (pa_cons (pe_tup (pa_cons pe_int (pa_cons pe_int (pa_cons pe_int pa_nil)))) (pa_cons (pe_tup (pa_cons pe_int (pa_cons pe_int (pa_cons pe_int pa_nil)))) pa_nil)))) (pa_cons pe_int (pa_cons (pe_tup (pa_cons (pe_tup (pa_cons pe_int (pa_cons pe_int pa_nil))) pa_nil)) (pa_cons pe_int pa_nil))))) (nomark _))))), ?_⟩
    have bj : ∀ n : Int, 0 ≤ n → n ≤ 63 → (-(2 ^ 62) ≤ (if (if n < 2 then n else 2) > 1 then (if n < 2 then n else 2) else 1) ∧ (if (if n < 2 then n else 2) > 1 then (if n < 2 then n else 2) else 1) < 2 ^ 62) ∧ (if (if n < 2 then n else 2) > 1 then (if n < 2 then n else 2) else (1 : Int)).toNat ≤ 2 := by
      intro n h0 h1
      repeat' split
      all_goals omega
    obtain ⟨⟨bj1, bj2⟩, bj3⟩ := bj ns.length (by omega) (by omega)
    refine ⟨_, rfl, _, ns.length, rfl, .inl ⟨_, hS, by rw [List.length_map]⟩, _, _, rfl, _, _, rfl, _, rfl, bj1, bj2, for_range (n := _) (fun i σ H1 => ∃ u1 u2 : Option V, σ = [some (.ref a), u1, u2, none] ∧ Same H H1)
      ⟨none, none, rfl, Same.refl H⟩ ?_ ?_⟩
    · rintro k σ H1 hk ⟨u1, u2, rfl, s1⟩
      have hk3 : k < 2 := Nat.lt_of_lt_of_le hk bj3
      refine ⟨_, rfl, _, rfl, a, ns, k, congrArg (fun z => [V.ref a, V.int z]) (Int.zero_add _), s1.seq hS, hlen, by omega, fun c H2 nc s2 hc2 => ?_⟩
      have nc0 : H c = none := free_none s1 nc
      refine ⟨_, rfl, c, rfl, hc2, fun H3 b3 hc3 => ⟨_, rfl, iteF ?_⟩⟩
      refine ⟨_, rfl, c, rfl, hc3, fun H4 b4 hc4 => ⟨_, rfl, iteF ?_⟩⟩
      exact ⟨_, _, rfl, fun b o e => b4 _ _ (ne_of_none e nc0) (b3 _ _ (ne_of_none e nc0) ((s1.trans s2) _ _ e))⟩
    · rintro σ H1 ⟨u1, u2, rfl, s1⟩
      have E1 := ed_lst (K := K) (σ := [some (.ref a), u1, u2, none]) (H0 := H1) (ed_cons (ed_R (er_spl (K := K) told1 (by decide +kernel) (by decide) (by decide) (by decide) (by decide) (by decide)))
        (ed_cons (ed_I (ev_lenR (K := K) (er_spl (K := K) told2 (by decide +kernel) (by decide) (by decide) (by decide) (by decide) (by decide)))) (ed_cons (ed_R (er_spl (K := K) told3 (by decide +kernel) (by decide) (by decide) (by decide) (by decide) (by decide)))
        (ed_cons (ed_I (ev_lenR (K := K) (er_spl (K := K) told4 (by decide +kernel) (by decide) (by decide) (by decide) (by decide) (by decide)))) ed_nil)))) (by decide)
      refine seq_asgD (i := 3) E1 (Same.refl _) fun v H4 s4 hv => ?_
      clear E1
      have L1 := ed_lst (K := K) (σ := [some (.ref a), u1, u2, some v]) (H0 := H4) (ed_cons (ed_R (er_lit [[0, 1, 2], [1, 2, 0], [2, 0, 1]] (by decide) (by decide))) (ed_cons (ed_I (ev_c (x := .int 6))) (ed_cons (ed_R (er_lit [[0, 1]] (by decide) (by decide))) (ed_cons (ed_I (ev_c (x := .int 24))) ed_nil)))) (by decide)
      exact ret_eq (Same.refl H4) (ed_var rfl hv) L1 told_sh told_eq fun H5 => q H5
end
end K42

set_option Elab.async false
set_option linter.all false
set_option maxRecDepth 100000
set_option maxHeartbeats 6400000
namespace K42
open PySem L2 Tx Tg Tm Sr
theorem df_mk {K : PySem.W.Frag} {h : Heap} {mg : Str → Option Value} {x : Str} {st : Stmt} {ps : List Str} {f : Addr} {oc kV dc pm cd ct : Value} {od an : Option Addr} {sl : Array (Option Value)} (X : K.In h) (G : h.Ns mainGlobals mg)
    (a : PySem.W.nsIn K mainGlobals x = some (some (.ref f))) (l : K.lookup f = some ⟨oc, od, .func (PySem.W.fnOf x x (defArgs st) (defBody st) (defScope st) .none kV dc pm an cd ct), sl⟩)
    (c : PySem.W.codeIn K cd x = true) (k : PySem.W.keepIn K (.ref f) = true)
    (hb : ∀ (kV doc pm : Value) (an : Option Addr) (cdv ct : Value) (us : List Value), us.length = ps.length → bindArgs (PySem.W.fnOf x x (defArgs st) (defBody st) (defScope st) .none kV doc pm an cdv ct) ⟨us, []⟩ = pure (ps.zip us)) :
    Df K mg x st ps f (PySem.W.fnOf x x (defArgs st) (defBody st) (defScope st) .none kV dc pm an cd ct) :=
  have F := fun_mk (st := st) l c k
  ⟨F, PySem.W.mg_of X G a, F.binds hb⟩
theorem all_mk {l : PySem.W.OpenLaw} {w : World} {K : PySem.W.Frag} {h : Heap} {mg : Str → Option Value} {fa : Addr} (X : K.In h) (G : h.Ns mainGlobals mg) (hfa : mg "law" = some (.ref fa))
    (hx : ∃ n t, n = 10 ^ 200 ∧ mg "LEAST_TOO_LONG" = some (.int n t))
    {f1 : Addr} {od1 an1 : Option Addr} {sl1 : Array (Option Value)} {oc1 kV1 dc1 pm1 cd1 ct1 : Value}
    (a1 : PySem.W.nsIn K mainGlobals "is_integer" = some (some (.ref f1))) (l1 : K.lookup f1 = some ⟨oc1, od1, .func (PySem.W.fnOf "is_integer" "is_integer" (defArgs sInt) (defBody sInt) (defScope sInt) .none kV1 dc1 pm1 an1 cd1 ct1), sl1⟩) (c1 : PySem.W.codeIn K cd1 "is_integer" = true) (k1 : PySem.W.keepIn K (.ref f1) = true)
    {f2 : Addr} {od2 an2 : Option Addr} {sl2 : Array (Option Value)} {oc2 kV2 dc2 pm2 cd2 ct2 : Value}
    (a2 : PySem.W.nsIn K mainGlobals "check_between" = some (some (.ref f2))) (l2 : K.lookup f2 = some ⟨oc2, od2, .func (PySem.W.fnOf "check_between" "check_between" (defArgs sBetween) (defBody sBetween) (defScope sBetween) .none kV2 dc2 pm2 an2 cd2 ct2), sl2⟩) (c2 : PySem.W.codeIn K cd2 "check_between" = true) (k2 : PySem.W.keepIn K (.ref f2) = true)
    {f3 : Addr} {od3 an3 : Option Addr} {sl3 : Array (Option Value)} {oc3 kV3 dc3 pm3 cd3 ct3 : Value}
    (a3 : PySem.W.nsIn K mainGlobals "check_most" = some (some (.ref f3))) (l3 : K.lookup f3 = some ⟨oc3, od3, .func (PySem.W.fnOf "check_most" "check_most" (defArgs sMost) (defBody sMost) (defScope sMost) .none kV3 dc3 pm3 an3 cd3 ct3), sl3⟩) (c3 : PySem.W.codeIn K cd3 "check_most" = true) (k3 : PySem.W.keepIn K (.ref f3) = true)
    {f4 : Addr} {od4 an4 : Option Addr} {sl4 : Array (Option Value)} {oc4 kV4 dc4 pm4 cd4 ct4 : Value}
    (a4 : PySem.W.nsIn K mainGlobals "still_turn" = some (some (.ref f4))) (l4 : K.lookup f4 = some ⟨oc4, od4, .func (PySem.W.fnOf "still_turn" "still_turn" (defArgs sStill) (defBody sStill) (defScope sStill) .none kV4 dc4 pm4 an4 cd4 ct4), sl4⟩) (c4 : PySem.W.codeIn K cd4 "still_turn" = true) (k4 : PySem.W.keepIn K (.ref f4) = true)
    {f5 : Addr} {od5 an5 : Option Addr} {sl5 : Array (Option Value)} {oc5 kV5 dc5 pm5 cd5 ct5 : Value}
    (a5 : PySem.W.nsIn K mainGlobals "joint_of" = some (some (.ref f5))) (l5 : K.lookup f5 = some ⟨oc5, od5, .func (PySem.W.fnOf "joint_of" "joint_of" (defArgs sJoint) (defBody sJoint) (defScope sJoint) .none kV5 dc5 pm5 an5 cd5 ct5), sl5⟩) (c5 : PySem.W.codeIn K cd5 "joint_of" = true) (k5 : PySem.W.keepIn K (.ref f5) = true)
    {f6 : Addr} {od6 an6 : Option Addr} {sl6 : Array (Option Value)} {oc6 kV6 dc6 pm6 cd6 ct6 : Value}
    (a6 : PySem.W.nsIn K mainGlobals "undone_of" = some (some (.ref f6))) (l6 : K.lookup f6 = some ⟨oc6, od6, .func (PySem.W.fnOf "undone_of" "undone_of" (defArgs sUndoneOf) (defBody sUndoneOf) (defScope sUndoneOf) .none kV6 dc6 pm6 an6 cd6 ct6), sl6⟩) (c6 : PySem.W.codeIn K cd6 "undone_of" = true) (k6 : PySem.W.keepIn K (.ref f6) = true)
    {f7 : Addr} {od7 an7 : Option Addr} {sl7 : Array (Option Value)} {oc7 kV7 dc7 pm7 cd7 ct7 : Value}
    (a7 : PySem.W.nsIn K mainGlobals "cycles_of" = some (some (.ref f7))) (l7 : K.lookup f7 = some ⟨oc7, od7, .func (PySem.W.fnOf "cycles_of" "cycles_of" (defArgs sCycles) (defBody sCycles) (defScope sCycles) .none kV7 dc7 pm7 an7 cd7 ct7), sl7⟩) (c7 : PySem.W.codeIn K cd7 "cycles_of" = true) (k7 : PySem.W.keepIn K (.ref f7) = true)
    {f8 : Addr} {od8 an8 : Option Addr} {sl8 : Array (Option Value)} {oc8 kV8 dc8 pm8 cd8 ct8 : Value}
    (a8 : PySem.W.nsIn K mainGlobals "order_of" = some (some (.ref f8))) (l8 : K.lookup f8 = some ⟨oc8, od8, .func (PySem.W.fnOf "order_of" "order_of" (defArgs sOrderOf) (defBody sOrderOf) (defScope sOrderOf) .none kV8 dc8 pm8 an8 cd8 ct8), sl8⟩) (c8 : PySem.W.codeIn K cd8 "order_of" = true) (k8 : PySem.W.keepIn K (.ref f8) = true)
    {f9 : Addr} {od9 an9 : Option Addr} {sl9 : Array (Option Value)} {oc9 kV9 dc9 pm9 cd9 ct9 : Value}
    (a9 : PySem.W.nsIn K mainGlobals "is_turn_of" = some (some (.ref f9))) (l9 : K.lookup f9 = some ⟨oc9, od9, .func (PySem.W.fnOf "is_turn_of" "is_turn_of" (defArgs sTurnOf) (defBody sTurnOf) (defScope sTurnOf) .none kV9 dc9 pm9 an9 cd9 ct9), sl9⟩) (c9 : PySem.W.codeIn K cd9 "is_turn_of" = true) (k9 : PySem.W.keepIn K (.ref f9) = true)
    {f10 : Addr} {od10 an10 : Option Addr} {sl10 : Array (Option Value)} {oc10 kV10 dc10 pm10 cd10 ct10 : Value}
    (a10 : PySem.W.nsIn K mainGlobals "is_turn" = some (some (.ref f10))) (l10 : K.lookup f10 = some ⟨oc10, od10, .func (PySem.W.fnOf "is_turn" "is_turn" (defArgs sIsTurn) (defBody sIsTurn) (defScope sIsTurn) .none kV10 dc10 pm10 an10 cd10 ct10), sl10⟩) (c10 : PySem.W.codeIn K cd10 "is_turn" = true) (k10 : PySem.W.keepIn K (.ref f10) = true)
    {f11 : Addr} {od11 an11 : Option Addr} {sl11 : Array (Option Value)} {oc11 kV11 dc11 pm11 cd11 ct11 : Value}
    (a11 : PySem.W.nsIn K mainGlobals "joint" = some (some (.ref f11))) (l11 : K.lookup f11 = some ⟨oc11, od11, .func (PySem.W.fnOf "joint" "joint" (defArgs sJ) (defBody sJ) (defScope sJ) .none kV11 dc11 pm11 an11 cd11 ct11), sl11⟩) (c11 : PySem.W.codeIn K cd11 "joint" = true) (k11 : PySem.W.keepIn K (.ref f11) = true)
    {f12 : Addr} {od12 an12 : Option Addr} {sl12 : Array (Option Value)} {oc12 kV12 dc12 pm12 cd12 ct12 : Value}
    (a12 : PySem.W.nsIn K mainGlobals "undone_turn" = some (some (.ref f12))) (l12 : K.lookup f12 = some ⟨oc12, od12, .func (PySem.W.fnOf "undone_turn" "undone_turn" (defArgs sU) (defBody sU) (defScope sU) .none kV12 dc12 pm12 an12 cd12 ct12), sl12⟩) (c12 : PySem.W.codeIn K cd12 "undone_turn" = true) (k12 : PySem.W.keepIn K (.ref f12) = true)
    {f13 : Addr} {od13 an13 : Option Addr} {sl13 : Array (Option Value)} {oc13 kV13 dc13 pm13 cd13 ct13 : Value}
    (a13 : PySem.W.nsIn K mainGlobals "turn_order" = some (some (.ref f13))) (l13 : K.lookup f13 = some ⟨oc13, od13, .func (PySem.W.fnOf "turn_order" "turn_order" (defArgs sO) (defBody sO) (defScope sO) .none kV13 dc13 pm13 an13 cd13 ct13), sl13⟩) (c13 : PySem.W.codeIn K cd13 "turn_order" = true) (k13 : PySem.W.keepIn K (.ref f13) = true)
    {f14 : Addr} {od14 an14 : Option Addr} {sl14 : Array (Option Value)} {oc14 kV14 dc14 pm14 cd14 ct14 : Value}
    (a14 : PySem.W.nsIn K mainGlobals "check_turn" = some (some (.ref f14))) (l14 : K.lookup f14 = some ⟨oc14, od14, .func (PySem.W.fnOf "check_turn" "check_turn" (defArgs sCheck) (defBody sCheck) (defScope sCheck) .none kV14 dc14 pm14 an14 cd14 ct14), sl14⟩) (c14 : PySem.W.codeIn K cd14 "check_turn" = true) (k14 : PySem.W.keepIn K (.ref f14) = true)
    {f15 : Addr} {od15 an15 : Option Addr} {sl15 : Array (Option Value)} {oc15 kV15 dc15 pm15 cd15 ct15 : Value}
    (a15 : PySem.W.nsIn K mainGlobals "spanned" = some (some (.ref f15))) (l15 : K.lookup f15 = some ⟨oc15, od15, .func (PySem.W.fnOf "spanned" "spanned" (defArgs sSpanned) (defBody sSpanned) (defScope sSpanned) .none kV15 dc15 pm15 an15 cd15 ct15), sl15⟩) (c15 : PySem.W.codeIn K cd15 "spanned" = true) (k15 : PySem.W.keepIn K (.ref f15) = true)
    {f16 : Addr} {od16 an16 : Option Addr} {sl16 : Array (Option Value)} {oc16 kV16 dc16 pm16 cd16 ct16 : Value}
    (a16 : PySem.W.nsIn K mainGlobals "_law_led_on" = some (some (.ref f16))) (l16 : K.lookup f16 = some ⟨oc16, od16, .func (PySem.W.fnOf "_law_led_on" "_law_led_on" (defArgs sLedOn) (defBody sLedOn) (defScope sLedOn) .none kV16 dc16 pm16 an16 cd16 ct16), sl16⟩) (c16 : PySem.W.codeIn K cd16 "_law_led_on" = true) (k16 : PySem.W.keepIn K (.ref f16) = true)
    {f17 : Addr} {od17 an17 : Option Addr} {sl17 : Array (Option Value)} {oc17 kV17 dc17 pm17 cd17 ct17 : Value}
    (a17 : PySem.W.nsIn K mainGlobals "_law_made_by" = some (some (.ref f17))) (l17 : K.lookup f17 = some ⟨oc17, od17, .func (PySem.W.fnOf "_law_made_by" "_law_made_by" (defArgs sMade) (defBody sMade) (defScope sMade) .none kV17 dc17 pm17 an17 cd17 ct17), sl17⟩) (c17 : PySem.W.codeIn K cd17 "_law_made_by" = true) (k17 : PySem.W.keepIn K (.ref f17) = true)
    {f18 : Addr} {od18 an18 : Option Addr} {sl18 : Array (Option Value)} {oc18 kV18 dc18 pm18 cd18 ct18 : Value}
    (a18 : PySem.W.nsIn K mainGlobals "_law_cup" = some (some (.ref f18))) (l18 : K.lookup f18 = some ⟨oc18, od18, .func (PySem.W.fnOf "_law_cup" "_law_cup" (defArgs sCup) (defBody sCup) (defScope sCup) .none kV18 dc18 pm18 an18 cd18 ct18), sl18⟩) (c18 : PySem.W.codeIn K cd18 "_law_cup" = true) (k18 : PySem.W.keepIn K (.ref f18) = true)
    {f19 : Addr} {od19 an19 : Option Addr} {sl19 : Array (Option Value)} {oc19 kV19 dc19 pm19 cd19 ct19 : Value}
    (a19 : PySem.W.nsIn K mainGlobals "_law_bit" = some (some (.ref f19))) (l19 : K.lookup f19 = some ⟨oc19, od19, .func (PySem.W.fnOf "_law_bit" "_law_bit" (defArgs sBit) (defBody sBit) (defScope sBit) .none kV19 dc19 pm19 an19 cd19 ct19), sl19⟩) (c19 : PySem.W.codeIn K cd19 "_law_bit" = true) (k19 : PySem.W.keepIn K (.ref f19) = true)
    {f20 : Addr} {od20 an20 : Option Addr} {sl20 : Array (Option Value)} {oc20 kV20 dc20 pm20 cd20 ct20 : Value}
    (a20 : PySem.W.nsIn K mainGlobals "_law_pick" = some (some (.ref f20))) (l20 : K.lookup f20 = some ⟨oc20, od20, .func (PySem.W.fnOf "_law_pick" "_law_pick" (defArgs sPick) (defBody sPick) (defScope sPick) .none kV20 dc20 pm20 an20 cd20 ct20), sl20⟩) (c20 : PySem.W.codeIn K cd20 "_law_pick" = true) (k20 : PySem.W.keepIn K (.ref f20) = true)
    {f21 : Addr} {od21 an21 : Option Addr} {sl21 : Array (Option Value)} {oc21 kV21 dc21 pm21 cd21 ct21 : Value}
    (a21 : PySem.W.nsIn K mainGlobals "_law_dealt" = some (some (.ref f21))) (l21 : K.lookup f21 = some ⟨oc21, od21, .func (PySem.W.fnOf "_law_dealt" "_law_dealt" (defArgs sDealt) (defBody sDealt) (defScope sDealt) .none kV21 dc21 pm21 an21 cd21 ct21), sl21⟩) (c21 : PySem.W.codeIn K cd21 "_law_dealt" = true) (k21 : PySem.W.keepIn K (.ref f21) = true)
    {f22 : Addr} {od22 an22 : Option Addr} {sl22 : Array (Option Value)} {oc22 kV22 dc22 pm22 cd22 ct22 : Value}
    (a22 : PySem.W.nsIn K mainGlobals "_law_any_turn" = some (some (.ref f22))) (l22 : K.lookup f22 = some ⟨oc22, od22, .func (PySem.W.fnOf "_law_any_turn" "_law_any_turn" (defArgs sAny) (defBody sAny) (defScope sAny) .none kV22 dc22 pm22 an22 cd22 ct22), sl22⟩) (c22 : PySem.W.codeIn K cd22 "_law_any_turn" = true) (k22 : PySem.W.keepIn K (.ref f22) = true)
    {f23 : Addr} {od23 an23 : Option Addr} {sl23 : Array (Option Value)} {oc23 kV23 dc23 pm23 cd23 ct23 : Value}
    (a23 : PySem.W.nsIn K mainGlobals "_law_beside_turns" = some (some (.ref f23))) (l23 : K.lookup f23 = some ⟨oc23, od23, .func (PySem.W.fnOf "_law_beside_turns" "_law_beside_turns" (defArgs sBeside) (defBody sBeside) (defScope sBeside) .none kV23 dc23 pm23 an23 cd23 ct23), sl23⟩) (c23 : PySem.W.codeIn K cd23 "_law_beside_turns" = true) (k23 : PySem.W.keepIn K (.ref f23) = true)
    {f24 : Addr} {od24 an24 : Option Addr} {sl24 : Array (Option Value)} {oc24 kV24 dc24 pm24 cd24 ct24 : Value}
    (a24 : PySem.W.nsIn K mainGlobals "_law_block_moves" = some (some (.ref f24))) (l24 : K.lookup f24 = some ⟨oc24, od24, .func (PySem.W.fnOf "_law_block_moves" "_law_block_moves" (defArgs sBlock) (defBody sBlock) (defScope sBlock) .none kV24 dc24 pm24 an24 cd24 ct24), sl24⟩) (c24 : PySem.W.codeIn K cd24 "_law_block_moves" = true) (k24 : PySem.W.keepIn K (.ref f24) = true)
    {f25 : Addr} {od25 an25 : Option Addr} {sl25 : Array (Option Value)} {oc25 kV25 dc25 pm25 cd25 ct25 : Value}
    (a25 : PySem.W.nsIn K mainGlobals "_law_moves" = some (some (.ref f25))) (l25 : K.lookup f25 = some ⟨oc25, od25, .func (PySem.W.fnOf "_law_moves" "_law_moves" (defArgs sMoves) (defBody sMoves) (defScope sMoves) .none kV25 dc25 pm25 an25 cd25 ct25), sl25⟩) (c25 : PySem.W.codeIn K cd25 "_law_moves" = true) (k25 : PySem.W.keepIn K (.ref f25) = true)
    {f26 : Addr} {od26 an26 : Option Addr} {sl26 : Array (Option Value)} {oc26 kV26 dc26 pm26 cd26 ct26 : Value}
    (a26 : PySem.W.nsIn K mainGlobals "_law_right" = some (some (.ref f26))) (l26 : K.lookup f26 = some ⟨oc26, od26, .func (PySem.W.fnOf "_law_right" "_law_right" (defArgs sRight) (defBody sRight) (defScope sRight) .none kV26 dc26 pm26 an26 cd26 ct26), sl26⟩) (c26 : PySem.W.codeIn K cd26 "_law_right" = true) (k26 : PySem.W.keepIn K (.ref f26) = true)
    {f27 : Addr} {od27 an27 : Option Addr} {sl27 : Array (Option Value)} {oc27 kV27 dc27 pm27 cd27 ct27 : Value}
    (a27 : PySem.W.nsIn K mainGlobals "law" = some (some (.ref f27))) (l27 : K.lookup f27 = some ⟨oc27, od27, .func (PySem.W.fnOf "law" "law" (defArgs sLaw) (defBody sLaw) (defScope sLaw) .none kV27 dc27 pm27 an27 cd27 ct27), sl27⟩) (c27 : PySem.W.codeIn K cd27 "law" = true) (k27 : PySem.W.keepIn K (.ref f27) = true)
    {CC : Addr} (aC : PySem.W.nsIn K mainGlobals "TurnSpan" = some (some (.ref CC)))
    {fm1 : Addr} {odm1 anm1 : Option Addr} {slm1 : Array (Option Value)} {ocm1 kVm1 dcm1 pmm1 cdm1 ctm1 : Value}
    (am1 : PySem.W.findIn K (.ref CC) "__init__" = some (some (.ref fm1))) (im1 : PySem.W.isFn K (.ref fm1) = true) (lm1 : K.lookup fm1 = some ⟨ocm1, odm1, .func (PySem.W.fnOf "__init__" "TurnSpan.__init__" (defArgs sInit) (defBody sInit) (defScope sInit) .none kVm1 dcm1 pmm1 anm1 cdm1 ctm1), slm1⟩) (cm1 : PySem.W.codeIn K cdm1 "TurnSpan.__init__" = true) (km1 : PySem.W.keepIn K (.ref fm1) = true)
    {fm2 : Addr} {odm2 anm2 : Option Addr} {slm2 : Array (Option Value)} {ocm2 kVm2 dcm2 pmm2 cdm2 ctm2 : Value}
    (am2 : PySem.W.findIn K (.ref CC) "put" = some (some (.ref fm2))) (im2 : PySem.W.isFn K (.ref fm2) = true) (lm2 : K.lookup fm2 = some ⟨ocm2, odm2, .func (PySem.W.fnOf "put" "TurnSpan.put" (defArgs sPut) (defBody sPut) (defScope sPut) .none kVm2 dcm2 pmm2 anm2 cdm2 ctm2), slm2⟩) (cm2 : PySem.W.codeIn K cdm2 "TurnSpan.put" = true) (km2 : PySem.W.keepIn K (.ref fm2) = true)
    {fm3 : Addr} {odm3 anm3 : Option Addr} {slm3 : Array (Option Value)} {ocm3 kVm3 dcm3 pmm3 cdm3 ctm3 : Value}
    (am3 : PySem.W.findIn K (.ref CC) "turns" = some (some (.ref fm3))) (im3 : PySem.W.isFn K (.ref fm3) = true) (lm3 : K.lookup fm3 = some ⟨ocm3, odm3, .func (PySem.W.fnOf "turns" "TurnSpan.turns" (defArgs sTurns) (defBody sTurns) (defScope sTurns) .none kVm3 dcm3 pmm3 anm3 cdm3 ctm3), slm3⟩) (cm3 : PySem.W.codeIn K cdm3 "TurnSpan.turns" = true) (km3 : PySem.W.keepIn K (.ref fm3) = true)
    {fm4 : Addr} {odm4 anm4 : Option Addr} {slm4 : Array (Option Value)} {ocm4 kVm4 dcm4 pmm4 cdm4 ctm4 : Value}
    (am4 : PySem.W.findIn K (.ref CC) "_put_all" = some (some (.ref fm4))) (im4 : PySem.W.isFn K (.ref fm4) = true) (lm4 : K.lookup fm4 = some ⟨ocm4, odm4, .func (PySem.W.fnOf "_put_all" "TurnSpan._put_all" (defArgs sPutAll) (defBody sPutAll) (defScope sPutAll) .none kVm4 dcm4 pmm4 anm4 cdm4 ctm4), slm4⟩) (cm4 : PySem.W.codeIn K cdm4 "TurnSpan._put_all" = true) (km4 : PySem.W.keepIn K (.ref fm4) = true)
    (pg : PySem.W.plainGet K CC Str.empty = true) (hd : PySem.W.hasDictIn K CC = true) (po : PySem.W.plainOver K CC = true) (sa : PySem.W.findIn K (.ref CC) "__setattr__" = some (some (.builtin "object.__setattr__"))) (mk : PySem.W.makesIn K CC = true) (kc : PySem.W.keepIn K (.ref CC) = true)
    (nM : PySem.W.findIn K (.ref CC) "most" = some none)
    (nS : PySem.W.findIn K (.ref CC) "start" = some none)
    (nK : PySem.W.findIn K (.ref CC) "kept" = some none)
    (nF : PySem.W.findIn K (.ref CC) "found" = some none)
    (z1 : PySem.W.nsIn K mainGlobals "isinstance" = some none)
    (z2 : PySem.W.nsIn K mainGlobals "int" = some none)
    (z3 : PySem.W.nsIn K mainGlobals "bool" = some none)
    (z4 : PySem.W.nsIn K mainGlobals "abs" = some none)
    (z5 : PySem.W.nsIn K mainGlobals "len" = some none)
    (z6 : PySem.W.nsIn K mainGlobals "list" = some none)
    (z7 : PySem.W.nsIn K mainGlobals "sorted" = some none)
    (z8 : PySem.W.nsIn K mainGlobals "repr" = some none)
    (z9 : PySem.W.nsIn K mainGlobals "range" = some none)
    (z10 : PySem.W.nsIn K mainGlobals "max" = some none)
    (z11 : PySem.W.nsIn K mainGlobals "min" = some none)
    (z12 : PySem.W.nsIn K mainGlobals "all" = some none)
    (z13 : PySem.W.nsIn K mainGlobals "tuple" = some none)
    (z14 : PySem.W.nsIn K mainGlobals "enumerate" = some none)
    (z15 : PySem.W.nsIn K mainGlobals "dict" = some none)
    (zL : PySem.W.nsIn K mainGlobals "lcm" = some (some (.builtin "math.lcm")))
    {t1 : Tok} (v1 : PySem.W.nsIn K mainGlobals "MAX_POINTS" = some (some (.int 60 t1)))
    {t2 : Tok} (v2 : PySem.W.nsIn K mainGlobals "MAX_TURNS" = some (some (.int 2000 t2))) :
    ∃ fd : FuncData, (∀ (s : Shared) (v : Value), BindsTo s fd ⟨[v], []⟩ [("_law_script", v)]) ∧ ∀ base : Heap, K.In base → base.Ns mainGlobals mg → Kept l.prog w K mg base CX0 7 fa fd ["_law_script"] (spLaw K) := by
  have e := hfa.symm.trans (PySem.W.mg_of X G a27)
  cases e
  obtain ⟨n, t0, en, hx⟩ := hx
  subst en
  have T : Txt K mg := ⟨PySem.W.mg_none_of X G z1, PySem.W.mg_none_of X G z2, PySem.W.mg_none_of X G z3, PySem.W.mg_none_of X G z4, PySem.W.mg_none_of X G z5, PySem.W.mg_none_of X G z6, PySem.W.mg_none_of X G z7, PySem.W.mg_none_of X G z8, PySem.W.mg_none_of X G z9, PySem.W.mg_none_of X G z10, PySem.W.mg_none_of X G z11, PySem.W.mg_none_of X G z12, PySem.W.mg_none_of X G z13, PySem.W.mg_none_of X G z14, ⟨_, hx⟩, ⟨_, PySem.W.mg_of X G v1⟩, ⟨_, PySem.W.mg_of X G v2⟩, PySem.W.mg_none_of X G z15, PySem.W.mg_of X G zL⟩
  have D1 : Df K mg "is_integer" sInt ["value"] f1 _ := df_mk X G a1 l1 c1 k1 fun _ _ _ _ _ _ us hl => match us, hl with | [_], _ => rfl
  have D2 : Df K mg "check_between" sBetween ["value", "least", "most"] f2 _ := df_mk X G a2 l2 c2 k2 fun _ _ _ _ _ _ us hl => match us, hl with | [_, _, _], _ => rfl
  have D3 : Df K mg "check_most" sMost ["many", "limit"] f3 _ := df_mk X G a3 l3 c3 k3 fun _ _ _ _ _ _ us hl => match us, hl with | [_, _], _ => rfl
  have D4 : Df K mg "still_turn" sStill ["points"] f4 _ := df_mk X G a4 l4 c4 k4 fun _ _ _ _ _ _ us hl => match us, hl with | [_], _ => rfl
  have D5 : Df K mg "joint_of" sJoint ["one", "other"] f5 _ := df_mk X G a5 l5 c5 k5 fun _ _ _ _ _ _ us hl => match us, hl with | [_, _], _ => rfl
  have D6 : Df K mg "undone_of" sUndoneOf ["turn"] f6 _ := df_mk X G a6 l6 c6 k6 fun _ _ _ _ _ _ us hl => match us, hl with | [_], _ => rfl
  have D7 : Df K mg "cycles_of" sCycles ["turn"] f7 _ := df_mk X G a7 l7 c7 k7 fun _ _ _ _ _ _ us hl => match us, hl with | [_], _ => rfl
  have D8 : Df K mg "order_of" sOrderOf ["turn"] f8 _ := df_mk X G a8 l8 c8 k8 fun _ _ _ _ _ _ us hl => match us, hl with | [_], _ => rfl
  have D9 : Df K mg "is_turn_of" sTurnOf ["points", "value"] f9 _ := df_mk X G a9 l9 c9 k9 fun _ _ _ _ _ _ us hl => match us, hl with | [_, _], _ => rfl
  have D10 : Df K mg "is_turn" sIsTurn ["value"] f10 _ := df_mk X G a10 l10 c10 k10 fun _ _ _ _ _ _ us hl => match us, hl with | [_], _ => rfl
  have D11 : Df K mg "joint" sJ ["one", "other"] f11 _ := df_mk X G a11 l11 c11 k11 fun _ _ _ _ _ _ us hl => match us, hl with | [_, _], _ => rfl
  have D12 : Df K mg "undone_turn" sU ["turn"] f12 _ := df_mk X G a12 l12 c12 k12 fun _ _ _ _ _ _ us hl => match us, hl with | [_], _ => rfl
  have D13 : Df K mg "turn_order" sO ["turn"] f13 _ := df_mk X G a13 l13 c13 k13 fun _ _ _ _ _ _ us hl => match us, hl with | [_], _ => rfl
  have D14 : Df K mg "check_turn" sCheck ["value"] f14 _ := df_mk X G a14 l14 c14 k14 fun _ _ _ _ _ _ us hl => match us, hl with | [_], _ => rfl
  have D15 : Df K mg "spanned" sSpanned ["points", "turns"] f15 _ := df_mk X G a15 l15 c15 k15 fun _ _ _ _ _ _ us hl => match us, hl with | [_, _], _ => rfl
  have D16 : Df K mg "_law_led_on" sLedOn ["_law_turn", "_law_other"] f16 _ := df_mk X G a16 l16 c16 k16 fun _ _ _ _ _ _ us hl => match us, hl with | [_, _], _ => rfl
  have D17 : Df K mg "_law_made_by" sMade ["_law_points", "_law_some"] f17 _ := df_mk X G a17 l17 c17 k17 fun _ _ _ _ _ _ us hl => match us, hl with | [_, _], _ => rfl
  have D18 : Df K mg "_law_cup" sCup ["_law_script", "_law_at"] f18 _ := df_mk X G a18 l18 c18 k18 fun _ _ _ _ _ _ us hl => match us, hl with | [_, _], _ => rfl
  have D19 : Df K mg "_law_bit" sBit ["_law_cup_here", "_law_much"] f19 _ := df_mk X G a19 l19 c19 k19 fun _ _ _ _ _ _ us hl => match us, hl with | [_, _], _ => rfl
  have D20 : Df K mg "_law_pick" sPick ["_law_cup_here", "_law_items"] f20 _ := df_mk X G a20 l20 c20 k20 fun _ _ _ _ _ _ us hl => match us, hl with | [_, _], _ => rfl
  have D21 : Df K mg "_law_dealt" sDealt ["_law_cup_here", "_law_items"] f21 _ := df_mk X G a21 l21 c21 k21 fun _ _ _ _ _ _ us hl => match us, hl with | [_, _], _ => rfl
  have D22 : Df K mg "_law_any_turn" sAny ["_law_cup_here", "_law_points"] f22 _ := df_mk X G a22 l22 c22 k22 fun _ _ _ _ _ _ us hl => match us, hl with | [_, _], _ => rfl
  have D23 : Df K mg "_law_beside_turns" sBeside ["_law_one", "_law_other"] f23 _ := df_mk X G a23 l23 c23 k23 fun _ _ _ _ _ _ us hl => match us, hl with | [_, _], _ => rfl
  have D24 : Df K mg "_law_block_moves" sBlock ["_law_cup_here", "_law_signs", "_law_lot"] f24 _ := df_mk X G a24 l24 c24 k24 fun _ _ _ _ _ _ us hl => match us, hl with | [_, _, _], _ => rfl
  have D25 : Df K mg "_law_moves" sMoves ["_law_cup_here", "_law_signs"] f25 _ := df_mk X G a25 l25 c25 k25 fun _ _ _ _ _ _ us hl => match us, hl with | [_, _], _ => rfl
  have D26 : Df K mg "_law_right" sRight ["_law_cup_here"] f26 _ := df_mk X G a26 l26 c26 k26 fun _ _ _ _ _ _ us hl => match us, hl with | [_], _ => rfl
  have D27 : Df K mg "law" sLaw ["_law_script"] fa _ := df_mk X G a27 l27 c27 k27 fun _ _ _ _ _ _ us hl => match us, hl with | [_], _ => rfl
  have Fm1 := fun_mk (st := sInit) lm1 cm1 km1
  have bm1 := Fm1.binds (ps := ["self", "points", "most"]) fun _ _ _ _ _ _ us hl => match us, hl with | [_, _, _], _ => rfl
  have Fm2 := fun_mk (st := sPut) lm2 cm2 km2
  have bm2 := Fm2.binds (ps := ["self", "turn"]) fun _ _ _ _ _ _ us hl => match us, hl with | [_, _], _ => rfl
  have Fm3 := fun_mk (st := sTurns) lm3 cm3 km3
  have bm3 := Fm3.binds (ps := ["self"]) fun _ _ _ _ _ _ us hl => match us, hl with | [_], _ => rfl
  have Fm4 := fun_mk (st := sPutAll) lm4 cm4 km4
  have bm4 := Fm4.binds (ps := ["self", "turns", "leader"]) fun _ _ _ _ _ _ us hl => match us, hl with | [_, _, _], _ => rfl
  have c0 : ClsT K mg CC := ⟨⟨pg, hd, po, sa⟩, nM, nS, nK, nF, PySem.W.mg_of X G aC⟩
  refine ⟨PySem.W.fnOf "law" "law" (defArgs sLaw) (defBody sLaw) (defScope sLaw) .none kV27 dc27 pm27 an27 cd27 ct27, fun s v => .of_eq rfl, fun base _ _ => ?_⟩
  have GL : Low l.prog w K mg base _ _ _ _ _ _ _ _ := ⟨D14, D5, D6, D8, ok_check D14.F T D10 D9 D1, ok_joint D5.F T, ok_undoneof D6.F T, ok_order D8.F T D7⟩
  have GS : LowS K mg CC _ _ _ _ _ _ _ _ _ _ _ _ _ _ _ _ _ _ _ _ := ⟨D2, D1, D9, D4, D5, D3, c0, ⟨mk, am1, im1, kc⟩, Fm1, bm1, Fm2, bm2, ⟨am2, im2, km2⟩, Fm3, bm3, ⟨am3, im3, km3⟩, Fm4, bm4, ⟨am4, im4, km4⟩⟩
  have gp := ok_pick (P := l.prog) (w := w) (base := base) D20.F T D19
  have gA := ok_any (P := l.prog) (w := w) (base := base) D22.F T D21 D19
  have gBl := ok_block (P := l.prog) (w := w) (base := base) D24.F T D20 D23 gp
  have GU : Up l.prog w K mg base _ _ _ _ _ _ _ _ _ _ _ _ _ _ _ _ := ⟨D19, D20, D25, D15, D17, D11, D12, D13,
    ok_bit D19.F T, gp, ok_moves D25.F T D22 D19 D24 gA gBl, ok_spanned D15.F T GS, ok_made D17.F T D16, ok_J D11.F T GL, ok_U D12.F T GL, ok_O D13.F T GL⟩
  exact ok_law D27.F T GU (ok_cup D18.F T) (ok_right D26.F T GU) D18 D26
theorem fin {l : PySem.W.OpenLaw} {q : Program} {loose : List Str} {XP : (Str → Option Value) → Heap → Prop} {YP : World → Heap → Prop} {d : DefRec} {K : Params → PySem.W.Frag} (hn : l.most = some 63) (hdf : d.params.defaults = [])
    (hY : ∀ (w : World) (h : Heap), YP w h → (K w.params).In h)
    (F : ∀ (w : World) (mg : Str → Option Value) (fa : Addr) (h : Heap), (K w.params).In h → h.Ns mainGlobals mg → mg d.name = some (.ref fa) → XP mg h →
      ∃ fd : FuncData, (∀ (s : Shared) (u : Value), BindsTo s fd ⟨[u], []⟩ [("_law_script", u)]) ∧ ∀ base : Heap, (K w.params).In base → base.Ns mainGlobals mg → Kept l.prog w (K w.params) mg base CX0 7 fa fd ["_law_script"] (spLaw (K w.params))) :
    PySem.W.WalkO q loose XP YP l.row.toRowW d [] (fun f vs => PySem.call f vs) :=
  Tg.walk (n := 63) (k := 7) (x := "_law_script") (cx := fun _ => CX0) (sp := fun w => spLaw (K w.params)) hn (by decide) hdf ⟨rfl, by decide, by decide⟩ hY F (fun _ _ a ns hl _ hS => ⟨a, ns, rfl, hS, hl, fun _ => rfl⟩) fun _ _ _ _ _ z => z
end K42

set_option Elab.async false
set_option maxRecDepth 100000
open PySem PySem.W PyProof.Rows
set_option maxRecDepth 100000 in
set_option maxHeartbeats 0 in
theorem PySem.Challenge.cw_whatcounts_k42_whole_spanned_turns_holds : PySem.Challenge.rw_whatcounts_k42_whole_spanned_turns.Holds := by
  w_on; o_law; k_head; (case hw => w_witness2)
  k_fill
  refine K42.fin (l := PySem.Challenge.rw_whatcounts_k42_whole_spanned_turns) rfl rfl (fun w h Y => PySem.W.kIn_of Y) ?F
  case F =>
    intro w mg fa h KX G hmg hx
    have hx' : ∃ n t, n = 10 ^ 200 ∧ mg "LEAST_TOO_LONG" = some (.int n t) := by
      obtain ⟨v, e, r⟩ := hx.2.val _ (List.mem_singleton.mpr rfl)
      cases r
      exact ⟨_, _, by decide +kernel, e⟩
    refine' K42.all_mk KX G hmg hx' ?a1 ?l1 ?c1 ?k1 ?a2 ?l2 ?c2 ?k2 ?a3 ?l3 ?c3 ?k3 ?a4 ?l4 ?c4 ?k4 ?a5 ?l5 ?c5 ?k5 ?a6 ?l6 ?c6 ?k6 ?a7 ?l7 ?c7 ?k7 ?a8 ?l8 ?c8 ?k8 ?a9 ?l9 ?c9 ?k9 ?a10 ?l10 ?c10 ?k10 ?a11 ?l11 ?c11 ?k11 ?a12 ?l12 ?c12 ?k12 ?a13 ?l13 ?c13 ?k13 ?a14 ?l14 ?c14 ?k14 ?a15 ?l15 ?c15 ?k15 ?a16 ?l16 ?c16 ?k16 ?a17 ?l17 ?c17 ?k17 ?a18 ?l18 ?c18 ?k18 ?a19 ?l19 ?c19 ?k19 ?a20 ?l20 ?c20 ?k20 ?a21 ?l21 ?c21 ?k21 ?a22 ?l22 ?c22 ?k22 ?a23 ?l23 ?c23 ?k23 ?a24 ?l24 ?c24 ?k24 ?a25 ?l25 ?c25 ?k25 ?a26 ?l26 ?c26 ?k26 ?a27 ?l27 ?c27 ?k27 ?aC ?am1 ?im1 ?lm1 ?cm1 ?km1 ?am2 ?im2 ?lm2 ?cm2 ?km2 ?am3 ?im3 ?lm3 ?cm3 ?km3 ?am4 ?im4 ?lm4 ?cm4 ?km4 ?pg ?hd ?po ?sa ?mk ?kc ?nM ?nS ?nK ?nF ?z1 ?z2 ?z3 ?z4 ?z5 ?z6 ?z7 ?z8 ?z9 ?z10 ?z11 ?z12 ?z13 ?z14 ?z15 ?zL ?v1 ?v2
    (case a1 => k_is)
    (case l1 => k_is)
    (case c1 => k_is)
    (case k1 => k_is)
    (case a2 => k_is)
    (case l2 => k_is)
    (case c2 => k_is)
    (case k2 => k_is)
    (case a3 => k_is)
    (case l3 => k_is)
    (case c3 => k_is)
    (case k3 => k_is)
    (case a4 => k_is)
    (case l4 => k_is)
    (case c4 => k_is)
    (case k4 => k_is)
    (case a5 => k_is)
    (case l5 => k_is)
    (case c5 => k_is)
    (case k5 => k_is)
    (case a6 => k_is)
    (case l6 => k_is)
    (case c6 => k_is)
    (case k6 => k_is)
    (case a7 => k_is)
    (case l7 => k_is)
    (case c7 => k_is)
    (case k7 => k_is)
    (case a8 => k_is)
    (case l8 => k_is)
    (case c8 => k_is)
    (case k8 => k_is)
    (case a9 => k_is)
    (case l9 => k_is)
    (case c9 => k_is)
    (case k9 => k_is)
    (case a10 => k_is)
    (case l10 => k_is)
    (case c10 => k_is)
    (case k10 => k_is)
    (case a11 => k_is)
    (case l11 => k_is)
    (case c11 => k_is)
    (case k11 => k_is)
    (case a12 => k_is)
    (case l12 => k_is)
    (case c12 => k_is)
    (case k12 => k_is)
    (case a13 => k_is)
    (case l13 => k_is)
    (case c13 => k_is)
    (case k13 => k_is)
    (case a14 => k_is)
    (case l14 => k_is)
    (case c14 => k_is)
    (case k14 => k_is)
    (case a15 => k_is)
    (case l15 => k_is)
    (case c15 => k_is)
    (case k15 => k_is)
    (case a16 => k_is)
    (case l16 => k_is)
    (case c16 => k_is)
    (case k16 => k_is)
    (case a17 => k_is)
    (case l17 => k_is)
    (case c17 => k_is)
    (case k17 => k_is)
    (case a18 => k_is)
    (case l18 => k_is)
    (case c18 => k_is)
    (case k18 => k_is)
    (case a19 => k_is)
    (case l19 => k_is)
    (case c19 => k_is)
    (case k19 => k_is)
    (case a20 => k_is)
    (case l20 => k_is)
    (case c20 => k_is)
    (case k20 => k_is)
    (case a21 => k_is)
    (case l21 => k_is)
    (case c21 => k_is)
    (case k21 => k_is)
    (case a22 => k_is)
    (case l22 => k_is)
    (case c22 => k_is)
    (case k22 => k_is)
    (case a23 => k_is)
    (case l23 => k_is)
    (case c23 => k_is)
    (case k23 => k_is)
    (case a24 => k_is)
    (case l24 => k_is)
    (case c24 => k_is)
    (case k24 => k_is)
    (case a25 => k_is)
    (case l25 => k_is)
    (case c25 => k_is)
    (case k25 => k_is)
    (case a26 => k_is)
    (case l26 => k_is)
    (case c26 => k_is)
    (case k26 => k_is)
    (case a27 => k_is)
    (case l27 => k_is)
    (case c27 => k_is)
    (case k27 => k_is)
    (case aC => k_is)
    (case am1 => k_is)
    (case im1 => k_is)
    (case lm1 => k_is)
    (case cm1 => k_is)
    (case km1 => k_is)
    (case am2 => k_is)
    (case im2 => k_is)
    (case lm2 => k_is)
    (case cm2 => k_is)
    (case km2 => k_is)
    (case am3 => k_is)
    (case im3 => k_is)
    (case lm3 => k_is)
    (case cm3 => k_is)
    (case km3 => k_is)
    (case am4 => k_is)
    (case im4 => k_is)
    (case lm4 => k_is)
    (case cm4 => k_is)
    (case km4 => k_is)
    (case pg => k_is)
    (case hd => k_is)
    (case po => k_is)
    (case sa => k_is)
    (case mk => k_is)
    (case kc => k_is)
    (case nM => k_is)
    (case nS => k_is)
    (case nK => k_is)
    (case nF => k_is)
    (case z1 => k_is)
    (case z2 => k_is)
    (case z3 => k_is)
    (case z4 => k_is)
    (case z5 => k_is)
    (case z6 => k_is)
    (case z7 => k_is)
    (case z8 => k_is)
    (case z9 => k_is)
    (case z10 => k_is)
    (case z11 => k_is)
    (case z12 => k_is)
    (case z13 => k_is)
    (case z14 => k_is)
    (case z15 => k_is)
    (case zL => k_is)
    (case v1 => k_is)
    (case v2 => k_is)

