import PyProof.Rows.All
import Wide.All
import OpenK.AllK
import Wide.FinOn
import HandS.ForMost
import HandS.IsInst
import HandS.Wide
import HandS.Strs
import HandS.SetTxt0
import HandS.Set
import HandS.SetTxtIn
import HandS.Exc
import HandS.TryOnly
import HandS.ExcOwn
import HandS.WordsExc
import PyProof.ReprReads
import PyProof.Rows.StrCut
import HandS.StrMore
import HandS.Iter
import KE.GoesMore
import PyProof.EnumMake
import PyProof.Draws
import PyProof.Rows.SortShell
import HandS.Gcd
import HandS.Conv
import HandS.DictComp
import KE.SortLaws
import PySem.Challenge.RW_whatcounts_k40_whole_turns
set_option Elab.async false
set_option linter.all false
set_option maxRecDepth 100000
set_option maxHeartbeats 3200000
/-! sets of texts: made of a text, sorted -/
namespace Tx
open PySem PySem.Spec PyProof.Rows L2

/-- the text that an entry holds -/
def tx (e : Int × Value) : Str := match e.2 with
  | .str y _ => y
  | _ => Str.empty
/-- an entry of a set of texts -/
def Ent (w : World) (e : Int × Value) : Prop := ∃ y u, e.2 = Value.str y u ∧ e.1 = hashStr w y

/-- at a stands a set whose members are the texts ys, in some order -/
def At (w : World) (h : Heap) (a : Addr) (ys : List Str) : Prop :=
  ∃ (o : Obj) (es : Array (Int × Value)) (ep : Nat) (t : SetTable), h.get? a = some o ∧ o.ExactSet ∧ o.data = .set es ep t ∧
    (∀ e ∈ es.toList, Ent w e) ∧ (es.toList.map tx).Perm ys ∧ es.size < scanBound ∧ t.fits es.size = true ∧
    Ris t.place.toList ∧ (w.params.followText "set-order" = true ∨ t.led = true)

section
variable {P : Program} {w : World} {h h' : Heap} {a : Addr} {ys : List Str}
theorem At.stays (R : At w h a ys) (k : ∀ o, h.get? a = some o → h'.get? a = some o) : At w h' a ys :=
  let ⟨o, es, ep, t, ho, r⟩ := R
  ⟨o, es, ep, t, k o ho, r⟩
theorem Ent.elems {l : List (Int × Value)} (g : ∀ e ∈ l, Ent w e) : ElemsOf (strKind P w) l := by
  intro e he
  obtain ⟨y, u, q1, q2⟩ := g e he
  refine ⟨⟨y, ?_, q2⟩, ?_⟩
  · rw [q1]
    exact Froz.is_str y u
  · rw [q1]
    rfl
theorem Ent.is {e : Int × Value} (g : Ent w e) (k : Str) : (strKind P w).is k e.2 = true ↔ tx e = k := by
  obtain ⟨y, u, q1, _⟩ := g
  unfold tx
  rw [q1]
  constructor
  · intro q
    exact ((strKind P w).inj (.str y u) k y q (Froz.is_str y u)).symm
  · intro q
    subst q
    exact Froz.is_str _ u
theorem Ent.mem {l : List (Int × Value)} (g : ∀ e ∈ l, Ent w e) (k : Str) : k ∈ l.map tx ↔ ∃ e ∈ l, (strKind P w).is k e.2 = true := by
  rw [List.mem_map]
  exact ⟨fun ⟨e, he, q⟩ => ⟨e, he, ((g e he).is k).mpr q⟩, fun ⟨e, he, q⟩ => ⟨e, he, ((g e he).is k).mp q⟩⟩
end

section
variable {P : Program} {w : World} {A : Around} {E : Value → Shared → Prop} {s : Shared} {a : Addr} {ys : List Str}
theorem add_tail {g : Bool → Sem Unit} (hg : ∀ (b : Bool) (z : Shared) (R : Unit → Shared → Prop), R () z → wpAny (model P w) A (g b) R E z)
    {o : Obj} {es : Array (Int × Value)} {ep : Nat} {t : SetTable} (ho : s.heap.get? a = some o) (hx : o.ExactSet) (hd : o.data = .set es ep t)
    {es1 : Array (Int × Value)} {t2 : SetTable} (g1 : ∀ e ∈ es1.toList, Ent w e) (m1 : (es1.toList.map tx).Perm ys)
    (hb1 : es1.size < scanBound) (hf2 : t2.fits es1.size = true) (hr : Ris t2.place.toList) (hl : w.params.followText "set-order" = true ∨ t2.led = true)
    {was : Bool} {R : Option Bool → Shared → Prop}
    (hR : ∀ h', Heap.SameBut a s.heap h' → At w h' a ys → R (some true) { s with heap := h' }) :
    wpAny (model P w) A (do
        storeSet a es1 t2
        if (!was && t2.tooFull) = true then do
            g (relayAll t2 es1 (SetTable.grown es1.size)).2.2
            storeSet a (relayAll t2 es1 (SetTable.grown es1.size)).1 (relayAll t2 es1 (SetTable.grown es1.size)).2.1
            pure (some true)
          else pure (some true)) R E s := by
  refine wpAny_bind (wpAny_storeSet_of ho hd ?_ (fits_of_scanBound hb1))
  have q1 := store_at (es' := es1) (t' := t2) ho hd
  have sb := Heap.SameBut.update s.heap a (Obj.putSet es1 t2)
  split
  · have p3 := relayAll_perm t2 es1 (SetTable.grown es1.size)
    have f3 := relayAll_fits t2 es1 (SetTable.grown es1.size)
    have r3 := relayAll_ris t2 es1 (SetTable.grown es1.size)
    have l3 := relayAll_led t2 es1 (SetTable.grown es1.size)
    generalize relayAll t2 es1 (SetTable.grown es1.size) = Z at p3 f3 r3 l3 ⊢
    obtain ⟨es2, t3, gave⟩ := Z
    dsimp only at p3 f3 r3 l3 ⊢
    have z2 : es2.size = es1.size := by
      have := p3.length_eq
      rw [Array.length_toList, Array.length_toList] at this
      exact this
    refine wpAny_bind (hg _ _ _ ?_)
    refine wpAny_bind (wpAny_storeSet_of q1 rfl ?_ (fits_of_scanBound (by rw [z2]; exact hb1)))
    have q2 := store_at (es' := es2) (t' := t3) q1 rfl
    refine wpAny_pure (hR _ (sb.trans (Heap.SameBut.update _ a _)) ?_)
    exact ⟨_, es2, _, t3, q2, hx, rfl, fun e he => g1 e (p3.mem_iff.mp he), (p3.map tx).trans m1, by rw [z2]; exact hb1, f3, r3, hl.imp id fun z => l3.trans z⟩
  · exact wpAny_pure (hR _ sb ⟨_, es1, _, t2, q1, hx, rfl, g1, m1, hb1, hf2, hr, hl⟩)

theorem add_hashed {k : Str} {u : Tok} {Q : Bool → Shared → Prop} (R : At w s.heap a ys) (room : ys.length + 1 < scanBound)
    (hQ : ∀ h', Heap.SameBut a s.heap h' → At w h' a (if k ∈ ys then ys else k :: ys) → Q (!decide (k ∈ ys)) { s with heap := h' }) :
    wpAny (model P w) A (setAddHashed a (.str k u) (hashStr w k)) Q E s := by
  obtain ⟨o, es, ep, t, ho, hx, hd, g, pm, hb, hf, hr, hl⟩ := R
  have hkey : (strKind P w).is k (.str k u) = true := Froz.is_str k u
  have hel : ElemsOf (strKind P w) es.toList := Ent.elems g
  have hz : es.size = ys.length := by
    have := pm.length_eq
    rw [List.length_map, Array.length_toList] at this
    exact this
  unfold setAddHashed setAddHashedIn
  refine wpAny_holding (wpAny_bind (wpAny_setState_of ho hd hf ?_))
  dsimp only
  rw [byScan_of (x := Value.str k u) rfl hb hel]
  simp only [↓reduceIte]
  unfold setAddByScan
  refine wpAny_bind ?_
  refine wpAny_bind (wpAny_rule ?_)
  refine wpAny_bind (wpAny_setScan_of (knd := strKind P w) (k := k) hkey ho hd hf hel ?_)
  cases hfi : List.findIdx? (fun e => (strKind P w).is k e.2) es.toList with
  | some j =>
    dsimp only
    obtain ⟨hj, pj, _⟩ := List.findIdx?_eq_some_iff_getElem.mp hfi
    have hk : k ∈ ys := pm.mem_iff.mp ((Ent.mem (P := P) g k).mpr ⟨es.toList[j], List.getElem_mem hj, pj⟩)
    refine wpAny_pure (wpAny_pure ?_)
    have q := hQ s.heap (Heap.SameBut.refl a s.heap) (by rw [if_pos hk]; exact ⟨o, es, ep, t, ho, hx, hd, g, pm, hb, hf, hr, hl⟩)
    rw [decide_eq_true hk] at q
    exact q
  | none =>
    dsimp only
    have hk : k ∉ ys := fun z => by
      obtain ⟨e, he, q⟩ := (Ent.mem (P := P) g k).mp (pm.mem_iff.mpr z)
      have c := List.findIdx?_eq_none_iff.mp hfi e he
      rw [q] at c
      cases c
    have hgw : ∀ (b : Bool) {z : Shared} {R : Unit → Shared → Prop}, R () z → wpAny (model P w) A (match b with | true => rule "set.scan.the-table-gave-way" | false => pure ()) R E z := by
      intro b z R q
      cases b
      · exact wpAny_pure q
      · exact wpAny_rule q
    have p1 := layNew_perm t es (hashStr w k) (.str k u)
    have f1 := layNew_fits t es (hashStr w k) (.str k u)
    have r1 := layNew_ris t es (hashStr w k) (.str k u) hr
    have l1 := layNew_led t es (hashStr w k) (.str k u)
    generalize layNew t es (hashStr w k) (.str k u) = Z at p1 f1 r1 l1 ⊢
    obtain ⟨es1, t1, was, gave⟩ := Z
    dsimp only at p1 f1 r1 l1 ⊢
    rw [Array.toList_push] at p1
    have pc : es1.toList.Perm ((hashStr w k, Value.str k u) :: es.toList) := p1.trans (List.perm_append_singleton _ _)
    have pk : (es1.toList.map tx).Perm (k :: ys) := (pc.map tx).trans (List.Perm.cons k pm)
    have g1 : ∀ e ∈ es1.toList, Ent w e := by
      intro e he
      cases List.mem_cons.mp (pc.mem_iff.mp he) with
      | inl z => exact ⟨k, u, by rw [z], by rw [z]⟩
      | inr z => exact g e z
    have hb1 : es1.size < scanBound := by
      have e1 : es1.size = ys.length + 1 := by
        have := pk.length_eq
        rw [List.length_map, Array.length_toList] at this
        exact this
      rw [e1]
      exact room
    have hld : w.params.followText "set-order" = true ∨ t1.led = true := hl.imp id fun z => l1.trans z
    have fin : ∀ h', Heap.SameBut a s.heap h' → At w h' a (k :: ys) → Q true { s with heap := h' } := by
      intro h' sb r
      have q := hQ h' sb (by rw [if_neg hk]; exact r)
      rw [decide_eq_false hk] at q
      exact q
    refine wpAny_bind (hgw _ ?_)
    split
    · refine wpAny_bind ?_
      rw [hashByValue_scannable 8 (x := Value.str k u) rfl]
      refine wpAny_pure ?_
      refine add_tail (ys := k :: ys) ?_ ho hx hd g1 pk hb1 ?_ ?_ ?_ ?_
      · intro b z R q
        cases b
        · exact wpAny_pure q
        · exact wpAny_rule q
      · first | (split <;> first | exact f1 | exact SetTable.fits_plain_off f1) | exact f1
      · first | (split <;> exact r1) | exact r1
      · first | (split <;> exact hld) | exact hld
      · intro h' sb r
        dsimp only
        exact wpAny_pure (fin h' sb r)
    · refine wpAny_bind (wpAny_pure ?_)
      simp only [↓reduceIte]
      refine add_tail (ys := k :: ys) ?_ ho hx hd g1 pk hb1 f1 r1 hld ?_
      · intro b z R q
        cases b
        · exact wpAny_pure q
        · exact wpAny_rule q
      · intro h' sb r
        dsimp only
        exact wpAny_pure (fin h' sb r)
end

/-! ### the signs of a text, each once -/
abbrev one (c : Nat) : Str := ⟨#[c]⟩
theorem one_inj {c d : Nat} (h : one c = one d) : c = d := by
  have q : [c] = [d] := congrArg (fun y : Str => y.cps.toList) h
  exact (List.cons.inj q).1
/-- the members behind the first signs -/
def met : List Nat → List Nat → List Nat
  | acc, [] => acc
  | acc, c :: r => met (if c ∈ acc then acc else c :: acc) r
theorem met_len (l : List Nat) : ∀ acc : List Nat, (met acc l).length ≤ acc.length + l.length := by
  induction l with
  | nil => intro acc; exact Nat.le_refl _
  | cons c r ih =>
    intro acc
    have h := ih (if c ∈ acc then acc else c :: acc)
    show (met (if c ∈ acc then acc else c :: acc) r).length ≤ acc.length + (r.length + 1)
    split at h <;> rename_i hc
    · rw [if_pos hc]; omega
    · rw [if_neg hc]
      rw [List.length_cons] at h
      omega
theorem met_mem (l : List Nat) : ∀ (acc : List Nat) (c : Nat), c ∈ met acc l ↔ c ∈ acc ∨ c ∈ l := by
  induction l with
  | nil => intro acc c; simp [met]
  | cons d r ih =>
    intro acc c
    show c ∈ met (if d ∈ acc then acc else d :: acc) r ↔ _
    rw [ih]
    by_cases hd : d ∈ acc
    · rw [if_pos hd, List.mem_cons]
      constructor
      · rintro (q | q)
        · exact .inl q
        · exact .inr (.inr q)
      · rintro (q | q | q)
        · exact .inl q
        · exact .inl (q ▸ hd)
        · exact .inr q
    · rw [if_neg hd, List.mem_cons, List.mem_cons]
      constructor
      · rintro ((q | q) | q)
        · exact .inr (.inl q)
        · exact .inl q
        · exact .inr (.inr q)
      · rintro (q | q | q)
        · exact .inl (.inr q)
        · exact .inl (.inl q)
        · exact .inr q
theorem met_nodup (l : List Nat) : ∀ acc : List Nat, acc.Nodup → (met acc l).Nodup := by
  induction l with
  | nil => intro acc h; exact h
  | cons d r ih =>
    intro acc h
    refine ih _ ?_
    by_cases hd : d ∈ acc
    · rw [if_pos hd]; exact h
    · rw [if_neg hd]; exact List.nodup_cons.mpr ⟨hd, h⟩
theorem met_mono (l : List Nat) : ∀ (acc : List Nat), acc.length ≤ (met acc l).length := by
  induction l with
  | nil => intro acc; exact Nat.le_refl _
  | cons d r ih =>
    intro acc
    refine Nat.le_trans ?_ (ih _)
    by_cases hd : d ∈ acc
    · rw [if_pos hd]; exact Nat.le_refl _
    · rw [if_neg hd]; exact Nat.le_succ _
theorem mem_one {c : Nat} {l : List Nat} : one c ∈ l.map one ↔ c ∈ l := by
  rw [List.mem_map]
  exact ⟨fun ⟨d, hd, q⟩ => one_inj q ▸ hd, fun q => ⟨c, q, rfl⟩⟩

section
variable {P : Program} {w : World} {A : Around} {R : Result → Shared → Prop} {I : Addr} {fp wr : List Addr} {St : Nat → Heap → Prop} {x : Str}
/-- the making: sign by sign into the set at S -/
theorem loop (W : Walks P w A.in1 I fp wr x.cps.size (SignAt x) St) (S : Addr) (hS : S ∉ fp) (hfew : (met [] x.cps.toList).length + 1 < scanBound) :
    ∀ (r : List Nat) (i : Nat) (acc : List Nat) (s : Shared), x.cps.toList.drop i = r → i ≤ x.cps.size → met acc r = met [] x.cps.toList → St i s.heap → At w s.heap S (acc.map one) →
      (∀ h' tk, (∀ b o, b ≠ S → b ∉ wr → s.heap.get? b = some o → h'.get? b = some o) → At w h' S ((met [] x.cps.toList).map one) → R (.ok (.ret .none)) { s with heap := h', toks := tk }) →
      codeAny (model P w) A (.builtin "set.update.loop" ⟨[.ref S, .ref I], []⟩) R s := by
  have hSw : S ∉ wr := fun z => hS (W.sub _ z)
  intro r
  induction r with
  | nil =>
    intro i acc s hr hi hm hst hat hR
    have hin : i = x.cps.size := by
      have := List.drop_eq_nil_iff.mp hr
      rw [Array.length_toList] at this
      omega
    subst hin
    refine codeAny_builtin PyProof.Rows.F.entry_set_update_loop ?_
    rw [Around.under_plainId PyProof.Rows.F.plain_set_update_loop _]
    show wpAny _ A.in1 (pyNext (.ref I) >>= _) _ _ s
    refine wpAny_bind (W.done s _ _ hst fun h' tk k => ?_)
    show wpAny _ A.in1 (ret Value.none) _ _ _
    refine wpAny_pure (hR h' tk (fun b o _ hb e => k b o hb e) ?_)
    have e : acc = met [] x.cps.toList := hm
    rw [← e]
    exact hat.stays fun o e => k S o hSw e
  | cons c r ih =>
    intro i acc s hr hi hm hst hat hR
    obtain ⟨hx, hr2⟩ := Froz.at_of hr
    have hlt : i < x.cps.size := by
      rcases Nat.lt_or_ge i x.cps.size with z | z
      · exact z
      · rw [Array.getElem?_eq_none z] at hx
        cases hx
    refine codeAny_builtin PyProof.Rows.F.entry_set_update_loop ?_
    rw [Around.under_plainId PyProof.Rows.F.plain_set_update_loop _]
    show wpAny _ A.in1 (pyNext (.ref I) >>= _) _ _ s
    refine wpAny_bind (W.item i s _ _ hlt hst fun v h1 tk1 hv hst1 k1 => ?_)
    obtain ⟨d, u, hd, rfl⟩ := hv
    have ed : d = c := Option.some.inj (hd.symm.trans hx)
    subst ed
    have hat1 : At w h1 S (acc.map one) := hat.stays fun o e => k1 S o hSw e
    show wpAny _ A.in1 (holding [Value.str (one d) u] (setAdd S (.str (one d) u)) >>= _) _ _ _
    refine wpAny_bind (wpAny_holding ?_)
    unfold setAdd
    refine wpAny_holding ?_
    refine wpAny_bind ((strKind P w).pyHash (k := one d) (Froz.is_str _ _) ?_)
    have hlen : (acc.map one).length + 1 < scanBound := by
      rw [List.length_map]
      have := met_mono (d :: r) acc
      rw [hm] at this
      omega
    refine add_hashed (ys := acc.map one) (s := { s with heap := h1, toks := tk1 + 1 }) hat1 hlen fun h2 sb hat2 => ?_
    have e2 : (if one d ∈ acc.map one then acc.map one else one d :: acc.map one) = (if d ∈ acc then acc else d :: acc).map one := by
      by_cases z : d ∈ acc
      · rw [if_pos z, if_pos (mem_one.mpr z)]
      · rw [if_neg z, if_neg (fun q => z (mem_one.mp q))]
        rfl
    rw [e2] at hat2
    have k2 : ∀ b o, b ≠ S → h1.get? b = some o → h2.get? b = some o := fun b o hb e => (sb.2 b hb).trans e
    refine wpAny_pure ⟨plainId_quiet PyProof.Rows.F.plain_set_update_loop _, ih (i + 1) _ _ hr2 hlt hm (W.frame _ _ _ hst1 fun b hb o e => k2 b o (fun z => hS (z ▸ hb)) e) hat2 fun h3 tk3 k3 hat3 => ?_⟩
    exact hR h3 tk3 (fun b o hb hw e => k3 b o hb hw (k2 b o hb (k1 b o hw e))) hat3
end
end Tx

set_option Elab.async false
set_option linter.all false
set_option maxRecDepth 100000
set_option maxHeartbeats 3200000
/-! sets of texts: set(a text), sorted(it), as calls -/
namespace Tx
open PySem PySem.Spec PyProof.Rows L2

section
variable {P : Program} {w : World} {A : Around} {E : Value → Shared → Prop} {s : Shared}
theorem fresh_at (w : World) (h : Heap) (led : Bool) (hl : w.params.followText "set-order" = true ∨ led = true) :
    At w (h.push { cls := .type "set", dict := none, data := .set #[] 0 (.fresh 0 0 led) }) h.objs.size ([] : List Str) :=
  ⟨_, #[], 0, .fresh 0 0 led, Heap.get?_push_size _ rfl, ⟨rfl, rfl, rfl⟩, rfl, (fun e he => by simp at he), by simp, by decide, by rfl, List.Pairwise.nil, hl⟩

/-- a new set, as set.__new__ lays it -/
theorem new_set (v : Value) {R : Value → Shared → Prop}
    (h : R (.ref s.heap.objs.size) { s with heap := s.heap.push { cls := .type "set", dict := none, data := .set #[] 0 (.fresh 0 0 (!w.params.followText "set-order")) } }) :
    codeAny (model P w) A (.call (.builtin "set.__new__") ⟨[.type "set", v], []⟩) (wants R E) s := by
  refine codeAny_of_tree ?_
  show wpAny _ A.in1 (do
    checkBuiltinCall "set.__new__" ⟨[.type "set", v], []⟩
    again (.builtin "set.__new__" ⟨[.type "set", v], []⟩)) _ _ s
  refine wpAny_bind (wpAny_of_eq (F.newCall_set_1 v) (wpAny_pure ⟨plainId_quiet F.plain_set_new _, codeAny_builtin F.entry_set_new ?_⟩))
  rw [Around.under_plainId F.plain_set_new _]
  unfold Builtin.«set.__new__»
  unfold Builtin.Frozenset.newClass
  have hsub := sub_set_self
  obtain ⟨hp, g, d, tk, os⟩ := s
  dsimp only
  wp_walk
  refine wpAny_askSetting (wpAny_pure ?_)
  dsimp only
  simp only [newObj]
  exact wpAny_bind (wpAny_alloc (wpAny_pure (wpAny_pure h)))

theorem call_set_text {x : Str} {t : Tok} {Q : Value → Shared → Prop} (hh : A.handled = none) (hfew : (met [] x.cps.toList).length + 1 < scanBound)
    (h : ∀ (h' : Heap) (tk : Nat), At w h' s.heap.objs.size ((met [] x.cps.toList).map one) → (∀ b o, s.heap.get? b = some o → h'.get? b = some o) → Q (.ref s.heap.objs.size) { s with heap := h', toks := tk }) :
    wpAny (model P w) A (call (.type "set") [.str x t]) Q E s := by
  obtain ⟨c, tl, hmro⟩ := PySem.F.called_set.mro
  have hmade := PySem.F.called_set.made
  have hsub := PySem.F.called_set.sub
  refine wpAny_call (codeAny_of_tree ?_)
  show wpAny _ _ (callAny (.type "set") _) _ _ _
  refine wpAny_pure ⟨Code.quiet_builtin _ (by decide +kernel), codeAny_builtin PySem.F.entry_type_call ?_⟩
  rw [Around.under_plain (weight_type_call_type "set" [.str x t] []) rfl]
  have h1 := PySem.F.called_set.notType
  have h2 := PySem.F.called_set.canCreate
  have hct := PySem.F.typeCall_set_1 (.str x t)
  repeat (any_goals (first | assumption | wp_step))
  refine codeAny_mono (new_set (P := P) (w := w) (E := E) (.str x t) (R := fun obj z => ∃ led : Bool, (w.params.followText "set-order" = true ∨ led = true) ∧ obj = .ref s.heap.objs.size ∧ z = { s with heap := s.heap.push { cls := .type "set", dict := none, data := .set #[] 0 (.fresh 0 0 led) } }) ⟨_, ?_, rfl, rfl⟩) fun r z hr => ?_
  · cases w.params.followText "set-order"
    · exact .inr rfl
    · exact .inl rfl
  cases r with
  | error e => exact hr
  | ok fl =>
    cases fl with
    | ret obj =>
      obtain ⟨led, hled, rfl, rfl⟩ := hr
      have hS : (s.heap.push { cls := .type "set", dict := none, data := .set #[] 0 (.fresh 0 0 led) }).get? s.heap.objs.size = some { cls := .type "set", dict := none, data := .set #[] 0 (.fresh 0 0 led) } := Heap.get?_push_size _ rfl
      have hT : Shared.TypeIs { s with heap := s.heap.push { cls := .type "set", dict := none, data := .set #[] 0 (.fresh 0 0 led) } } (.ref s.heap.objs.size) "set" := ⟨_, hS, rfl⟩
      have hli := PySem.F.called_set.init.lookup
      have hbi := PySem.F.called_set.init.bind (.ref s.heap.objs.size)
      repeat (any_goals (first | assumption | wp_step))
      refine codeAny_mono (codeAny_call_builtin (R := wants (fun r z => r = .none ∧ ∃ h' tk, z = { s with heap := h', toks := tk } ∧ At w h' s.heap.objs.size ((met [] x.cps.toList).map one) ∧
          (∀ b o, s.heap.get? b = some o → h'.get? b = some o)) E) PySem.F.called_set.init.plain PySem.F.entry_set_init (check_set_init_1 hT ?_)) fun r₂ s₂ hr₂ => ?_
      · unfold Builtin.«set.__init__» noKeywords Builtin.Frozenset.updateFrom
        generalize hPI : pyIter = PI
        generalize hAS : Builtin.Frozenset.isAnySet = AS
        wp_walk
        subst hPI
        subst hAS
        refine L2.Fz.anySet ?_
        simp only [Bool.false_eq_true, ↓reduceIte]
        refine wpAny_bind (wpAny_typeOf (typeIs_str _ _ _) ?_)
        have hsd : (Value.type "str" == Value.type "dict") = false := by decide
        simp only [hsd, Bool.false_eq_true, ↓reduceIte]
        refine wpAny_bind (wpAny_pyIter_str fun o St W hst => ?_)
        refine wpAny_bind (wpAny_runValue ?_)
        have hne : s.heap.objs.size ∉ [(s.heap.push { cls := .type "set", dict := none, data := .set #[] 0 (.fresh 0 0 led) }).objs.size] := by
          rw [Heap.size_push, List.mem_singleton]
          exact Nat.ne_of_lt (Nat.lt_succ_self _)
        refine loop (W _ (by simp [hh])) s.heap.objs.size hne hfew _ 0 [] _ (by rfl) (Nat.zero_le _) rfl hst ?_ ?_
        · exact (fresh_at w s.heap led hled).stays fun o e => Heap.get?_push_of_some _ e
        · intro h' tk k hat
          refine wpAny_pure ?_
          show wpAny _ _ (ret Value.none) _ _ _
          refine wpAny_pure ⟨rfl, h', tk, rfl, hat, fun b o e => ?_⟩
          have hb := Heap.lt_size e
          refine k b o (Nat.ne_of_lt hb) ?_ (Heap.get?_push_of_some _ (Heap.get?_push_of_some _ e))
          rw [Heap.size_push, List.mem_singleton]
          exact Nat.ne_of_lt (Nat.lt_succ_of_lt hb)
      · cases r₂ with
        | error e => exact hr₂
        | ok fl₂ =>
          cases fl₂ with
          | ret r =>
            obtain ⟨rfl, h', tk, rfl, hS', hk'⟩ := hr₂
            repeat (any_goals (first | assumption | wp_step))
            exact h _ _ hS' hk'
          | _ => exact hr₂.elim
    | _ => exact hr.elim

/-! ### sorted(a set of one-sign texts) -/
theorem vals_strs {vs : List Value} : ∀ {es : List (Int × Value)}, (∀ e ∈ es, Ent w e) → vs.Perm (es.map (·.2)) → StrsAre vs (vs.map strOf) ∧ (vs.map strOf).Perm (es.map tx) := by
  intro es g p
  refine ⟨strsAre_map vs fun v hv => ?_, ?_⟩
  · obtain ⟨e, he, q⟩ := List.mem_map.mp (p.mem_iff.mp hv)
    obtain ⟨y, u, q1, _⟩ := g e he
    exact ⟨y, u, by rw [← q]; exact q1⟩
  · have q := p.map strOf
    rw [List.map_map] at q
    have e : es.map (strOf ∘ (·.2)) = es.map tx := List.map_congr_left fun e he => by
      obtain ⟨y, u, q1, _⟩ := g e he
      show strOf e.2 = tx e
      unfold tx
      rw [q1]
      rfl
    rw [e] at q
    exact q
theorem pairwise_of_sortedS : ∀ (l : List Str), sortedS l = true → l.Pairwise (fun a b => ltCps b.cps.toList a.cps.toList = false) := by
  have trans : ∀ a b c : List Nat, ltCps b a = false → ltCps c b = false → ltCps c a = false := by
    intro a b c h1 h2
    rw [ltCps_eq] at h1 h2 ⊢
    have h1' := of_decide_eq_false h1
    have h2' := of_decide_eq_false h2
    refine decide_eq_false fun z => ?_
    have n1 : a ≤ b := List.not_lt.mp h1'
    have n2 : b ≤ c := List.not_lt.mp h2'
    exact absurd z (List.not_lt.mpr (List.le_trans n1 n2))
  have all : ∀ (l : List Str) (p : Str), risingS p l = true → (p :: l).Pairwise (fun a b => ltCps b.cps.toList a.cps.toList = false) := by
    intro l
    induction l with
    | nil => intro p _; exact List.pairwise_singleton _ _
    | cons x r ih =>
      intro p h
      have h' : (!ltCps x.cps.toList p.cps.toList && risingS x r) = true := h
      rw [Bool.and_eq_true, Bool.not_eq_true'] at h'
      have q := ih x h'.2
      refine List.pairwise_cons.mpr ⟨fun y hy => ?_, q⟩
      rcases List.mem_cons.mp hy with z | z
      · rw [z]; exact h'.1
      · exact trans _ _ _ h'.1 ((List.pairwise_cons.mp q).1 y z)
  intro l h
  cases l with
  | nil => exact List.Pairwise.nil
  | cons x r => exact all r x h
theorem lt_one {c d : Nat} (h : ltCps (one d).cps.toList (one c).cps.toList = false) : c ≤ d := by
  rw [ltCps_eq] at h
  have q := of_decide_eq_false h
  rcases Nat.lt_or_ge d c with z | z
  · exact absurd (show [d] < [c] from List.cons_lt_cons_iff.mpr (.inl z)) q
  · exact z
/-- sorted one-sign texts, each once, are a rising row of signs -/
theorem rising {ss : List Str} {acc : List Nat} (p : ss.Perm (acc.map one)) (hs : sortedS ss = true) (hn : acc.Nodup) : ∃ ns : List Nat, ss = ns.map one ∧ ns.Perm acc ∧ ns.Pairwise (· < ·) := by
  have back : ∀ l : List Nat, (l.map one).map (fun y => y.cps.toList.headD 0) = l := by
    intro l
    rw [List.map_map]
    exact (List.map_congr_left fun c _ => rfl).trans (List.map_id l)
  have e : ss = (ss.map (fun y => y.cps.toList.headD 0)).map one := by
    rw [List.map_map]
    refine ((List.map_congr_left fun y hy => ?_).trans (List.map_id ss)).symm
    obtain ⟨c, _, q⟩ := List.mem_map.mp (p.mem_iff.mp hy)
    subst q
    rfl
  have pm : (ss.map (fun y => y.cps.toList.headD 0)).Perm acc := by
    have q := p.map (fun y => y.cps.toList.headD 0)
    rw [back] at q
    exact q
  refine ⟨_, e, pm, ?_⟩
  generalize ss.map (fun y => y.cps.toList.headD 0) = ns at e pm ⊢
  subst e
  have h1 := List.pairwise_map.mp (pairwise_of_sortedS _ hs)
  have h2 : ns.Nodup := pm.nodup_iff.mpr hn
  have h3 : ns.Pairwise (· ≠ ·) := h2
  refine List.Pairwise.imp₂ (fun x y a b => ?_) h1 h3
  have c := lt_one a
  omega

theorem sorted_text {a : Addr} {acc : List Nat} {Q : Value → Shared → Prop} (R : At w s.heap a (acc.map one)) (hn : acc.Nodup) (hh : A.handled = none) (h64 : acc.length < 64)
    (hQ : ∀ z p (out : Array Value) (c : Nat) (ns : List Nat), (∀ b o, s.heap.get? b = some o → z.heap.get? b = some o) → z.gens = s.gens → z.os = s.os → s.heap.objs.size ≤ p →
      z.heap.get? p = some (seqObj "list" out c) → StrsAre out.toList (ns.map one) → ns.Pairwise (· < ·) → ns.Perm acc → Q (.ref p) z) :
    wpAny (model P w) A (call (.builtin "sorted") [.ref a]) Q E s := by
  obtain ⟨o, es, ep, t, ho, hx, hd, g, pm, hb, hf, hr, hl⟩ := R
  refine Calls.call_function_entry kind_sorted plain_sorted entry_sorted (args_sorted1 _) ?_
  unfold Builtin.«sorted»
  refine wpAny_bind (m := checkCount "sorted" 1 1 _) (wpAny_pure ?_)
  refine wpAny_bind (collect_set (A := A.in1) hh ⟨o, ho, hx.1, hd⟩ hf hb hr hl fun s1 vs k1 hz g1 o1 pv => ?_)
  obtain ⟨hS, ps⟩ := vals_strs (w := w) g pv
  have ps2 := ps.trans pm
  have hvl : vs.length < 64 := by
    have q := ps2.length_eq
    rw [List.length_map, List.length_map] at q
    rw [q]; exact h64
  refine wpAny_bind (wpAny_newList ?_ (by rw [sizeLine_eq]; omega))
  have hoL : (s1.heap.push (seqObj "list" vs.toArray 0)).get? s1.heap.objs.size = some (seqObj "list" vs.toArray 0) := Heap.get?_push_size _ rfl
  refine wpAny_bind (wpAny_holding (wpAny_call_entry slot_list_sort ⟨_, hoL, rfl⟩ entry_list_sort
    (list_sort_treeK strKind_oneLt hoL hS.keysOf (fun v₁ v₂ rest e => keyKind_strs (by rw [← e]; exact hS)) hvl fun st' hp hs => ⟨_, rfl, ?_⟩) (args_list_sort _)))
  obtain ⟨ss, b1, b2, b3⟩ := sorted_out_str hS hp hs
  obtain ⟨ns, e, pn, ris⟩ := rising (b2.trans ps2) b3 hn
  subst e
  obtain ⟨c, hc⟩ := sortedHeap_at (vs := vs) (out := (arrOf st').map (·.2)) hoL
  refine wpAny_pure ⟨_, rfl, hQ _ s1.heap.objs.size _ c ns (fun b u e => ?_) g1 o1 hz hc b1 ris pn⟩
  have q := k1 b u e
  have hlt := Heap.lt_size q
  show (sortedHeap (s1.heap.push (seqObj "list" vs.toArray 0)) s1.heap.objs.size vs _).get? b = some u
  rw [sortedHeap_old (Nat.ne_of_lt hlt) (by rw [size_push']; exact Nat.lt_succ_of_lt hlt)]
  exact Heap.get?_push_of_some _ q
end
end Tx

set_option Elab.async false
set_option linter.all false
set_option maxRecDepth 100000
set_option maxHeartbeats 3200000
/-! defs that show data by repr: what is known of a call's guards goes along -/
namespace Tg
open PySem PySem.Spec PyProof.Rows L2

/-- nothing is being shown where the call stands -/
abbrev Still (A : Around) : Prop := A.guards = some []

/-- a def's promise, kept where nothing is being shown -/
structure Kept (P : Program) (w : World) (K : PySem.W.Frag) (mg : Str → Option Value) (base : Heap) (cx : CXT) (k : Nat) (f : Addr) (fd : FuncData) (ps : List Str) (sp : Sp) : Prop where
  long : ∀ xs H Q E, sp xs H Q E → xs.length = ps.length
  goes : ∀ (A : Around) (out : List Env) (s : Shared) (H : Hp) (args : Args) (us : List Value) (xs : List V) (Q : VK) (E : XK), Room k A → Still A → Env0 P w K mg base A out s H →
    BindsTo s fd args (ps.zip us) → Vals xs us → sp xs H Q E → codeAny (model P w) A (.call (.ref f) args) (CR cx out P w H s Q E) s

section
variable {P : Program} {w : World} {K : PySem.W.Frag} {mg : Str → Option Value} {base : Heap}
theorem Kept.ok {cx : CXT} {k : Nat} {f : Addr} {name qual : Str} {params : Arguments} {body : List Stmt} {scope : Scope} {dV kV doc pm cdv ct oc : Value} {an od : Option Addr}
    {osl : Array (Option Value)} {N ps : List Str} {sp : Sp}
    (look : K.lookup f = some ⟨oc, od, .func (PySem.W.fnOf name qual params body scope dV kV doc pm an cdv ct), osl⟩)
    (code : PySem.W.codeIn K cdv qual = true) (S : FnScope N ps scope) (long : ∀ xs H Q E, sp xs H Q E → xs.length = ps.length)
    (inner : ∀ (A : Around) (out : List Env) (s : Shared) (H : Hp) (xs : List V) (Q : VK) (E : XK), Room k (A.deeper (envOfC qual scope s.heap.objs.size f cdv)) →
      Still (A.deeper (envOfC qual scope s.heap.objs.size f cdv)) → sp xs H Q E →
      ∃ t, PSs (cxOf cx P w K mg base N qual scope f cdv A out s H E) body t ∧ t { nx := fun _ H2 => Q .non H2, rt := Q } (start N xs) H) :
    Kept P w K mg base cx (k + 1) f (PySem.W.fnOf name qual params body scope dV kV doc pm an cdv ct) ps sp where
  long := long
  goes := by
    intro A out s H args us xs Q E room still e0 bound rel hsp
    have hl := long _ _ _ _ hsp
    have inK : K.In s.heap := e0.mod.kin.keeps fun b o e => (e0.bs b o e).1
    have limit : s.heap.NoLimit := e0.mod.nolimit.keeps fun b o e => (e0.bs b o e).1
    have kinds : ∀ y ∈ ps.zip us, scope.names.lookup y.1 = some .local ∨
        (scope.names.lookup y.1 = some .cell ∧ ((cellsFrom (s.heap.objs.size + 1) scope.names []).lookup y.1).isSome = true) := by
      rintro ⟨n, v⟩ hy
      cases S.par n (List.of_mem_zip hy).1 with
      | inl q => exact .inl q
      | inr q => exact .inr ⟨q, PySem.W.cellsFrom_some _ _ _ (.inl q)⟩
    refine codeAny_call_function room.depth (inK _ _ look) rfl S.co S.gen rfl (PySem.W.codeRec_of inK code) (bound _ _ _ _ ?_)
    refine wpAny_newFunctionEnv_cells S.kind kinds fun env he z x => ?_
    subst he
    refine ⟨limit.keeps x.toInCall.keep, codeAny_func ?_⟩
    obtain ⟨t, ht, hq⟩ := inner A out s H xs Q E (room.deeper _) still hsp
    have J0 : Inv (cxOf cx P w K mg base N qual scope f cdv A out s H E) [] (start N xs) H z := inv_start S room.hd e0 hl rel x
    refine wpAny_mono (ht.run [] z (start N xs) H _ J0 hq) (fun fl z' hs => ?_) fun e z' hs => hs
    have close : ∀ {σ' : L2.St} {H2 : Hp} {v : V} {u : Value}, Inv (cxOf cx P w K mg base N qual scope f cdv A out s H E) [] σ' H2 z' → RelV v u → Q v H2 → CE out P w H s Q u z' := by
      intro σ' H2 v u J rv q
      exact ⟨v, H2, J.os, J.bare, J.base, J.hok, rv, q⟩
    cases fl with
    | ret u =>
      obtain ⟨v, σ', H2, J, rv, q⟩ := hs
      exact close J rv q
    | next =>
      obtain ⟨σ', H2, J, q⟩ := hs
      exact close (v := V.non) (u := Value.none) J rfl q
    | brk =>
      obtain ⟨_, _, _, q⟩ := hs
      exact q.elim
    | cont =>
      obtain ⟨_, _, _, q⟩ := hs
      exact q.elim

/-- for a def of the text that lets nothing out -/
theorem Kept.fn {x qual : Str} {st : Stmt} {f : Addr} {fd : FuncData} {N ps : List Str} {k : Nat} {sp : Sp} (F : Fun K x qual st f fd) (S : FnScope N ps (defScope st))
    (long : ∀ xs H Q E, sp xs H Q E → xs.length = ps.length)
    (inner : ∀ (cdv : Value) (A : Around) (out : List Env) (s : Shared) (H : Hp) (xs : List V) (Q : VK) (E : XK), Room k (A.deeper (envOfC qual (defScope st) s.heap.objs.size f cdv)) →
      Still (A.deeper (envOfC qual (defScope st) s.heap.objs.size f cdv)) → sp xs H Q E →
      ∃ t, PSs (cxOf CX0 P w K mg base N qual (defScope st) f cdv A out s H E).nox (defBody st) t ∧ t { nx := fun _ H2 => Q .non H2, rt := Q } (start N xs) H) :
    Kept P w K mg base CX0 (k + 1) f fd ps sp := by
  obtain ⟨oc, od, kV, doc, pm, an, cdv, ct, osl, e, look, code⟩ := F.ex
  subst e
  refine Kept.ok look code S long fun A out s H xs Q E room still hsp => ?_
  obtain ⟨t, h, q⟩ := inner cdv A out s H xs Q E room still hsp
  exact ⟨t, h.nox, q⟩
end

section
variable {X : Cx} {cx : CXT} {k : Nat} {f : Addr} {fd : FuncData} {ps : List Str} {sp : Sp} {dvs : List V} {ds : List Value} {E : XK} {x : Str} {p pos : Pos} {e : Expr} {es : List Expr} {t : TA}
theorem Kept.runs {pins : List (Addr × Obj)} {σ : L2.St} {H : Hp} {s : Shared} {Q : VK} {us : List Value} {xs : List V} (F : Kept X.prog X.w X.K X.mg X.base cx k f fd ps sp) (room : Room k X.A) (still : Still X.A)
    (hb : Binds X.K fd ps ds) (hd : Vals dvs ds) (hx : Passes cx X E) (I : Inv X pins σ H s) (r : Vals xs us) (h : sp (xs ++ dvs) H Q E) :
    wpAny (model X.prog X.w) X.A (call (.ref f) us) (EP X pins σ Q) X.xe s := by
  have r2 : Vals (xs ++ dvs) (us ++ ds) := r.append hd
  have hl : (us ++ ds).length = ps.length := r2.length.symm.trans (F.long _ _ _ _ h)
  refine wpAny_call (codeAny_mono (F.goes X.A X.stack s H ⟨us, []⟩ (us ++ ds) (xs ++ dvs) Q E room still I.env0 (hb s us I.kIn hl) r2 h) fun r z hq => ?_)
  match r, hq with
  | .error e, hq => exact hx pins σ H s e z I hq
  | .ok (.ret u), hq => exact I.after hq
  | .ok .next, hq => exact False.elim hq
  | .ok .brk, hq => exact False.elim hq
  | .ok .cont, hq => exact False.elim hq
/-- f(e, ..) of such a def -/
theorem pe_callG (F : Kept X.prog X.w X.K X.mg X.base cx k f fd ps sp) (room : Room k X.A) (still : Still X.A) (hg : Gl X x) (hm : X.mg x = some (.ref f)) (hk : PySem.W.keepIn X.K (.ref f) = true)
    (hb : Binds X.K fd ps ds) (hd : Vals dvs ds) (hx : Passes cx X E) (ha : PA X (e :: es) t) (hdb : (x == ("__debug__" : Str)) = false := by decide)
    (he : starEach (e :: es) X.env = (false, eval e X.env) :: starEach es X.env := by rfl) (hpl : (backTo pos (starEach es X.env)).any (·.1) = false := by rfl) :
    PE X (.Call (.Name x p) (e :: es) [] pos) (tCall sp dvs E t) := by
  constructor
  intro pins s σ H Q I h
  refine wpAny_Call_Name_kw (ld_glob I hg hm ?_ hdb)
  refine PySem.W.callWith_K (h₀ := X.base) I.ok.mod.kin hk ?_ he hpl
  exact thn (ha.run pos pins s σ H _ I h) fun us z ⟨xs, H1, J, r, q⟩ => ⟨J.kIn, F.runs room still hb hd hx J r q⟩

/-- data as it stands in the abstract heap: none, bools, ints, texts, lists, tuples, and dicts of texts and ints -/
inductive Data (K : PySem.W.Frag) (H : Hp) : V → PyData → Prop
  | flat {v : V} {d : PyData} (h : Dp K H v d) (n : d.hasDict = false) : Data K H v d
  | dict {a : Addr} {kvs : List (Str × Int)} (h : H a = some (.dK (kvs.map fun p => (Sum.inr p.1, V.int p.2)))) : Data K H (.ref a) (.dict (kvs.map fun p => (.str p.1, .int p.2)))

theorem keys_flat (h : Heap) : ∀ (kvs : List (Str × Int)) (es : List DictEntry) (vs : List (Key × Value)), Pairs (mixKind X.prog X.w) es vs → KV (kvs.map fun p => (Sum.inr p.1, V.int p.2)) vs →
    ReadsAll h (es.map (·.key)) ((kvs.map fun p => ((PyData.str p.1, PyData.int p.2) : PyData × PyData)).map (·.1)) [] ∧ ReadsAll h (es.map (·.val)) ((kvs.map fun p => ((PyData.str p.1, PyData.int p.2) : PyData × PyData)).map (·.2)) [] := by
  intro kvs
  induction kvs with
  | nil =>
    intro es vs hp rel
    cases rel
    cases hp
    exact ⟨.nil, .nil⟩
  | cons p kvs ih =>
    intro es vs hp rel
    cases rel with
    | @cons _ kv _ vs' r1 r2 =>
      cases hp with
      | @cons e _ es' _ hk hv hp' =>
        obtain ⟨q1, q2⟩ := ih _ _ hp' r2
        obtain ⟨k0, v0⟩ := kv
        obtain ⟨r3, r4⟩ := r1
        dsimp only at r3 r4 hk hv
        subst r3
        obtain ⟨t, r4⟩ := r4
        rcases keyIs_shape (show keyIs (Sum.inr p.1 : Key) e.key = true from hk) with ⟨i, t', z, _⟩ | ⟨x, t', z, e'⟩
        · cases z
        · cases z
          refine ⟨?_, ?_⟩
          · show ReadsAll h (e.key :: _) (PyData.str p.1 :: _) ([] ++ [])
            rw [e']
            exact .cons (.str _ _) q1
          · show ReadsAll h (e.val :: _) (PyData.int p.2 :: _) ([] ++ [])
            rw [hv, r4]
            exact .cons (.int _ _) q2
theorem Data.reads {pins : List (Addr × Obj)} {σ : L2.St} {H : Hp} {s : Shared} (I : Inv X pins σ H s) {v : V} {u : Value} {d : PyData} (h : Data X.K H v d) (r : RelV v u) :
    ∃ as, Reads s.heap u d as ∧ (d.hasDict = true → sysModules ∉ as) := by
  cases h with
  | flat h n =>
    obtain ⟨as, q⟩ := Dp.reads I d v u h r
    exact ⟨as, q, fun z => by rw [n] at z; cases z⟩
  | @dict a kvs h =>
    cases r
    obtain ⟨hz, hs, vs, rel, o, es, ep, ho, hx, hd, _, hp, _⟩ := I.hok a _ h
    obtain ⟨q1, q2⟩ := keys_flat (X := X) s.heap kvs _ _ hp rel
    refine ⟨_, Reads.dict ho hx.1 hd q1 q2, fun _ z => ?_⟩
    simp only [List.append_nil, List.mem_singleton] at z
    rw [z] at hs
    simp at hs

/-- repr(x) -/
def rShow (K : PySem.W.Frag) : List V → Hp → VK → Prop := fun xs H Q => ∃ (x : V) (d : PyData), xs = [x] ∧ Data K H x d ∧ d.showable = true ∧ d.depth < 60 ∧ d.shown.length ≤ sizeLine ∧ Q (.str d.shown) H
theorem call_show (still : Still X.A) (hu : X.A.units + 64 < cLine) : CallR X (.builtin "repr") (rShow X.K) := by
  intro pins s σ H xs us Q I r h
  obtain ⟨x, d, rfl, hd, h1, h3, h4, q⟩ := h
  obtain ⟨u, rfl, r1⟩ : ∃ u, us = [u] ∧ RelV x u := by
    cases r with
    | cons a b => cases b; exact ⟨_, rfl, a⟩
  obtain ⟨as, rd, hsm⟩ := Data.reads I hd r1
  cases rd with
  | none => exact P.repr_of_none ⟨.str (PyData.shown .none), H, I.tok _, ⟨_, rfl⟩, q⟩
  | bool b => exact P.repr_of_bool ⟨.str (PyData.shown (.bool b)), H, I.tok _, ⟨_, rfl⟩, q⟩
  | int i t => exact P.repr_of_int (of_decide_eq_true h1) ⟨.str (PyData.shown (.int i)), H, I.tok _, ⟨_, rfl⟩, q⟩
  | str z t => exact P.repr_of_str ⟨.str (PyData.shown (.str z)), H, I.tok _, ⟨_, rfl⟩, q⟩ h4
  | list a1 a2 a3 a4 => exact repr_of_reads' (Reads.list a1 a2 a3 a4) h1 hsm still (by omega) (fun _ _ e => e) (fun h' u tk hk => ⟨.str (PyData.shown _), H, I.kept (t' := tk) hk, ⟨_, rfl⟩, q⟩) h4
  | tuple a1 a2 a3 a4 => exact repr_of_reads' (Reads.tuple a1 a2 a3 a4) h1 hsm still (by omega) (fun _ _ e => e) (fun h' u tk hk => ⟨.str (PyData.shown _), H, I.kept (t' := tk) hk, ⟨_, rfl⟩, q⟩) h4
  | dict a1 a2 a3 a4 a5 => exact repr_of_reads' (Reads.dict a1 a2 a3 a4 a5) h1 hsm still (by omega) (fun _ _ e => e) (fun h' u tk hk => ⟨.str (PyData.shown _), H, I.kept (t' := tk) hk, ⟨_, rfl⟩, q⟩) h4
end

/-! ### the head: the law's call, nothing being shown -/
section
variable {P : Program} {w : World} {K : PySem.W.Frag} {mg mb : Str → Option Value} {cx : CXT} {k : Nat} {fa a : Addr} {fd : FuncData} {x : Str} {sp : Sp} {s₁ : Shared} {vs : List Value} {ns : List Int}
/-- from one abstract heap in which at most the script stands -/
theorem law_core (KX : K.In s₁.heap) (hns : s₁.heap.Ns mainGlobals mg) (hb : s₁.heap.Ns builtinsNs mb) (hbb : ∀ x : Str, x ≠ "__name__" → mb x = bootBuiltins x) (hlim : s₁.heap.NoLimit) (hg : s₁.gens = #[])
    (ha : s₁.heap.get? a = some { cls := .type "list", data := .seq vs.toArray }) (room : Room k callerA)
    (F : ∀ base : Heap, K.In base → base.Ns mainGlobals mg → Kept P w K mg base cx k fa fd [x] sp) (hbind : ∀ (s : Shared) (u : Value), BindsTo s fd ⟨[u], []⟩ [(x, u)])
    (hcx : ∀ H e z, cx [] H s₁ (fun _ _ _ => False) e z → False)
    (H : Hp) (only : Only H) (want : sp [.ref a] H (fun v _ => v = .bl true) fun _ _ _ => False) (hok : HOk P w H s₁.heap) (at_a : ∀ b, H b ≠ none → b = a) (notK : H a ≠ none → K.lookup a = none) :
    codeAny (model P w) callerA (.call (.ref fa) ⟨[.ref a], []⟩) (fun r z => r = .ok (.ret (.bool true)) ∧ OldK s₁.heap z.heap ∧ z.os = s₁.os ∧ AllBare z.gens) s₁ := by
  have under : ∀ {b : Addr} {o : Obj}, s₁.heap.get? b = some o → H b = none → (hidT s₁.heap H).get? b = some o := fun e n => hidT_get e n
  have away : ∀ {b : Addr}, (b = a → False) → H b = none := by
    intro b n
    cases q : H b with
    | none => rfl
    | some u => exact (n (at_a b (by rw [q]; simp))).elim
  have noDict : ∀ {b : Addr} {o : Obj} {es : Array DictEntry} {ep : Nat}, s₁.heap.get? b = some o → o.data = .dict es ep → H b = none := by
    intro b o es ep e d
    refine away fun z => ?_
    subst z
    rw [ha] at e
    cases e
    cases d
  have names : ∀ {b : Addr} {m : Str → Option Value}, s₁.heap.Ns b m → (hidT s₁.heap H).Ns b m := by
    rintro b m ⟨o, es, ep, e, d, r⟩
    exact ⟨o, es, ep, under e (noDict e d), d, r⟩
  have inB : K.In (hidT s₁.heap H) := by
    intro b o e
    refine under (KX b o e) ?_
    cases q : H b with
    | none => rfl
    | some u =>
      have z := at_a b (by rw [q]; simp)
      subst z
      have n := notK (by rw [q]; simp)
      rw [n] at e
      cases e
  have md : Mod K mg (hidT s₁.heap H) := ⟨inB, names hns, ⟨mb, names hb, hbb⟩, let ⟨mc, h1, h2⟩ := hlim; ⟨mc, names h1, h2⟩⟩
  have e0 : Env0 P w K mg (hidT s₁.heap H) callerA [] s₁ H := by
    refine ⟨rfl, md, fun b o e => of_hidT e, Nat.le_of_eq (hidT_size _ _), trivial, fun b hb => ?_, hok, .of_eq hg⟩
    exact absurd (show b ∈ ([] : List Addr) from hb) (by simp)
  refine codeAny_mono ((F _ inB (names hns)).goes callerA [] s₁ H ⟨[.ref a], []⟩ [.ref a] [.ref a] _ _ room rfl e0 (hbind s₁ (.ref a)) (.cons rfl .nil) want) fun r z h => ?_
  match r, h with
  | .error e, h => exact (hcx H e z h).elim
  | .ok .next, h => exact False.elim h
  | .ok .brk, h => exact False.elim h
  | .ok .cont, h => exact False.elim h
  | .ok (.ret u), h =>
    obtain ⟨v, H2, os, bare, un, hok2, r2, q⟩ := h
    have q' : v = .bl true := q
    subst q'
    obtain rfl : u = Value.bool true := r2
    refine ⟨rfl, OldK.of_keep fun b o e => ?_, os, bare⟩
    cases q : H b with
    | none =>
      refine un.keep b o e q (fun y => ?_) (by simp)
      exact absurd (show b ∈ ([] : List Addr) from y) (by simp)
    | some u =>
      rcases only b with y | ⟨ob, xs, y⟩
      · rw [q] at y
        cases y
      · have y2 := un.frzs b ob _ y
        obtain ⟨e1, _⟩ := hok b _ y
        obtain ⟨e2, _⟩ := hok2 b _ y2
        rw [e] at e1
        cases e1
        exact e2

theorem law_call (KX : K.In s₁.heap) (hns : s₁.heap.Ns mainGlobals mg) (hb : s₁.heap.Ns builtinsNs mb) (hbb : ∀ x : Str, x ≠ "__name__" → mb x = bootBuiltins x) (hlim : s₁.heap.NoLimit) (hg : s₁.gens = #[])
    (ha : s₁.heap.get? a = some { cls := .type "list", data := .seq vs.toArray }) (hi : IntsAre vs ns) (hl : ns.length ≤ sizeLine) (room : Room k callerA)
    (F : ∀ base : Heap, K.In base → base.Ns mainGlobals mg → Kept P w K mg base cx k fa fd [x] sp) (hbind : ∀ (s : Shared) (u : Value), BindsTo s fd ⟨[u], []⟩ [(x, u)])
    (hsp : ∀ H : Hp, Only H → SqL K H a (ns.map V.int) → sp [.ref a] H (fun v _ => v = .bl true) fun _ _ _ => False)
    (hcx : ∀ H e z, cx [] H s₁ (fun _ _ _ => False) e z → False) :
    codeAny (model P w) callerA (.call (.ref fa) ⟨[.ref a], []⟩) (fun r z => r = .ok (.ret (.bool true)) ∧ OldK s₁.heap z.heap ∧ z.os = s₁.os ∧ AllBare z.gens) s₁ := by
  have rel := vals_ints hi
  have len := hi.length
  have core := law_core KX hns hb hbb hlim hg ha room F hbind hcx
  cases hk : K.lookup a with
  | some o =>
    have e := KX a o hk
    rw [ha] at e
    cases e
    have only : Only (fun _ => none) := fun _ => .inl rfl
    refine core (fun _ => none) only (hsp _ only ?_) (fun b u z => nomatch (show (none : Option HO) = some u from z)) (fun b z => absurd rfl z) fun z => absurd rfl z
    exact .inr ⟨_, vs.toArray, _, hk, rfl, rfl, rfl, by rw [List.size_toArray, len]; exact hl, by simpa using rel⟩
  | none =>
    have only : Only (fun b => if b = a then some (.frz { cls := .type "list", data := .seq vs.toArray } (.lst (ns.map V.int))) else none) := by
      intro b
      by_cases z : b = a
      · exact .inr ⟨_, _, if_pos z⟩
      · exact .inl (if_neg z)
    refine core _ only (hsp _ only ?_) (fun b u z => ?_) (fun b z => ?_) fun _ => hk
    · exact .inl (.inr ⟨{ cls := .type "list", data := .seq vs.toArray }, if_pos rfl⟩)
    · by_cases y : b = a
      · have z' := (if_pos y).symm.trans z
        cases z'
        subst y
        exact ⟨ha, by rw [List.length_map]; exact hl, vs, _, rel, ha⟩
      · have z' := (if_neg y).symm.trans z
        cases z'
    · by_cases y : b = a
      · exact y
      · exact absurd (if_neg y) z
end

/-- the goal that the head leaves -/
theorem walk {l : PySem.W.OpenLaw} {n k : Nat} {q : Program} {loose : List Str} {XP : (Str → Option Value) → Heap → Prop} {YP : World → Heap → Prop} {d : DefRec} {K : Params → PySem.W.Frag} {cx : World → CXT} {sp : World → Sp} {x : Str}
    (hn : l.most = some n) (hn2 : n ≤ sizeLine) (hdf : d.params.defaults = []) (room : Room k callerA) (hY : ∀ (w : World) (h : Heap), YP w h → (K w.params).In h)
    (F : ∀ (w : World) (mg : Str → Option Value) (fa : Addr) (h : Heap), (K w.params).In h → h.Ns mainGlobals mg → mg d.name = some (.ref fa) → XP mg h →
      ∃ fd : FuncData, (∀ (s : Shared) (u : Value), BindsTo s fd ⟨[u], []⟩ [(x, u)]) ∧
        ∀ base : Heap, (K w.params).In base → base.Ns mainGlobals mg → Kept l.prog w (K w.params) mg base (cx w) k fa fd [x] (sp w))
    (hsp : ∀ (w : World) (H : Hp) (a : Addr) (ns : List Int), ns.length ≤ n → Only H → SqL (K w.params) H a (ns.map V.int) → sp w [.ref a] H (fun v _ => v = .bl true) fun _ _ _ => False)
    (hcx : ∀ (w : World) (H : Hp) (s : Shared) (e : Value) (z : Shared), cx w [] H s (fun _ _ _ => False) e z → False) :
    PySem.W.WalkO q loose XP YP l.row.toRowW d [] (fun f vs => PySem.call f vs) := by
  refine Att.attach_call hn hdf ?_
  intro w s₀ s₁ mg mb fa o pm cd doc a vs ns G Y ho hd hcd hmg hobj hints hlen hg
  have KX := hY w _ Y
  obtain ⟨fd, hb, hF⟩ := F w mg fa _ KX G.T.g hmg G.X
  exact law_call KX G.T.g G.T.b G.T.builtins G.T.nolimit hg hobj hints (Nat.le_trans hlen hn2) room hF hb (fun H hO hS => hsp w H a ns hlen hO hS) fun H e z => hcx w H s₁ e z
end Tg

set_option Elab.async false
set_option linter.all false
set_option maxRecDepth 100000
set_option maxHeartbeats 3200000
/-! set(a text), sorted(it), list(a text), as rules -/
namespace Tx
open PySem PySem.Spec PyProof.Rows L2

/-- the signs of a text, each once, rising -/
def ups (l : List Nat) : List Nat := (met [] l).mergeSort (fun a b => decide (a ≤ b))
theorem ups_perm (l : List Nat) : (ups l).Perm (met [] l) := List.mergeSort_perm _ _
theorem ups_mem (l : List Nat) (c : Nat) : c ∈ ups l ↔ c ∈ l := by
  rw [(ups_perm l).mem_iff, met_mem]
  simp
theorem ups_nodup (l : List Nat) : (ups l).Nodup := (ups_perm l).nodup_iff.mpr (met_nodup l [] List.nodup_nil)
theorem ups_up (l : List Nat) : (ups l).Pairwise (· < ·) := by
  have h1 : (ups l).Pairwise (fun a b => decide (a ≤ b) = true) :=
    List.pairwise_mergeSort (le := fun a b : Nat => decide (a ≤ b)) (fun a b c h1 h2 => by
      have h1' := of_decide_eq_true h1
      have h2' := of_decide_eq_true h2
      exact decide_eq_true (Nat.le_trans h1' h2')) (fun a b => by
      rcases Nat.le_total a b with z | z
      · simp [z]
      · simp [z]) (met [] l)
  have h2 : (ups l).Pairwise (· ≠ ·) := ups_nodup l
  refine List.Pairwise.imp₂ (fun x y a b => ?_) h1 h2
  have a' := of_decide_eq_true a
  omega
theorem up_eq : ∀ {l m : List Nat}, l.Pairwise (· < ·) → m.Pairwise (· < ·) → (∀ c, c ∈ l ↔ c ∈ m) → l = m
  | [], [], _, _, _ => rfl
  | [], y :: m, _, _, h => by have := (h y).mpr List.mem_cons_self; simp at this
  | x :: l, [], _, _, h => by have := (h x).mp List.mem_cons_self; simp at this
  | x :: l, y :: m, h1, h2, h => by
    obtain ⟨a1, a2⟩ := List.pairwise_cons.mp h1
    obtain ⟨b1, b2⟩ := List.pairwise_cons.mp h2
    have e : x = y := by
      rcases List.mem_cons.mp ((h x).mp List.mem_cons_self) with z | z
      · exact z
      · rcases List.mem_cons.mp ((h y).mpr List.mem_cons_self) with u | u
        · exact u.symm
        · have := a1 y u
          have := b1 x z
          omega
    subst e
    rw [up_eq a2 b2 fun c => ?_]
    constructor
    · intro q
      rcases List.mem_cons.mp ((h c).mp (List.mem_cons_of_mem _ q)) with z | z
      · subst z
        exact absurd (a1 _ q) (Nat.lt_irrefl _)
      · exact z
    · intro q
      rcases List.mem_cons.mp ((h c).mpr (List.mem_cons_of_mem _ q)) with z | z
      · subst z
        exact absurd (b1 _ q) (Nat.lt_irrefl _)
      · exact z
theorem ups_of {l ns : List Nat} (h : ns.Pairwise (· < ·)) (p : ns.Perm (met [] l)) : ns = ups l :=
  up_eq h (ups_up l) fun c => by rw [p.mem_iff, ups_mem, met_mem]; simp

/-- one-sign texts as values -/
abbrev ones (l : List Nat) : List V := l.map fun c => V.str (one c)
theorem ones_map (l : List Nat) : ones l = (l.map one).map V.str := by rw [List.map_map]; rfl

/-- the set of texts at a -/
def TO (w : World) (a : Addr) (acc : List Nat) : HO := .ext fun h => At w h a (acc.map one)
section
variable {X : Cx}
theorem to_new {w : World} {P : Program} {H : Hp} {h : Heap} {a : Addr} {acc : List Nat} (R : At w h a (acc.map one)) : ObjOk P w H h a (TO w a acc) :=
  ⟨R, let ⟨o, _, _, _, ho, _⟩ := R; ⟨o, ho⟩, fun _ _ p k => At.stays p k⟩
/-- set(s), s a text of few different signs -/
def rSetTx (w : World) : List V → Hp → VK → Prop := fun xs H Q => ∃ z : Str, xs = [.str z] ∧ (met [] z.cps.toList).length < 64 ∧ ∀ p, H p = none → Q (.ref p) (upd H p (TO w p (met [] z.cps.toList)))
theorem cr_setTx (hc : X.calm = true) : CallR X (.type "set") (rSetTx X.w) := by
  intro pins s σ H xs us Q I r h
  obtain ⟨z, rfl, hf, q⟩ := h
  obtain ⟨t, rfl⟩ : ∃ t, us = [Value.str z t] := by
    cases r with
    | cons a b =>
      cases b
      obtain ⟨t, rfl⟩ := a
      exact ⟨t, rfl⟩
  have hb : (met [] z.cps.toList).length + 1 < scanBound := by
    have : (64 : Nat) + 1 < scanBound := by decide
    omega
  refine call_set_text (P := X.prog) (w := X.w) (I.ok.hd hc) hb fun h' tk R k => ?_
  exact ⟨.ref _, upd H s.heap.objs.size (TO X.w s.heap.objs.size (met [] z.cps.toList)), I.laid (t' := tk) k (Nat.le_refl _) (to_new R), rfl, q _ (I.hok.fresh (Nat.le_refl _))⟩
/-- sorted(a set of texts) -/
def rSortTx (w : World) : List V → Hp → VK → Prop := fun xs H Q => ∃ (a : Addr) (l : List Nat), xs = [.ref a] ∧ H a = some (TO w a (met [] l)) ∧ (met [] l).length < 64 ∧ ∀ p, H p = none → Q (.ref p) (upd H p (.lst (ones (ups l))))
theorem cr_sortTx (hc : X.calm = true) : CallR X (.builtin "sorted") (rSortTx X.w) := by
  intro pins s σ H vs us Q I r h
  obtain ⟨a, l, rfl, ha, h64, q⟩ := h
  have R : At X.w s.heap a ((met [] l).map one) := (I.hok a _ ha).1
  rw [Vals.ref1 r]
  refine sorted_text (P := X.prog) R (met_nodup l [] List.nodup_nil) (I.ok.hd hc) h64 fun z p out c ns k g o hp hg hS up pm => ?_
  obtain rfl := ups_of up pm
  have hlen : (ones (ups l)).length ≤ sizeLine := by
    rw [List.length_map, pm.length_eq, sizeLine_eq]
    omega
  have hn : H p = none := I.hok.fresh hp
  have hv : Vals (ones (ups l)) out.toList := by rw [ones_map]; exact vals_of_strs hS
  have J : Inv X pins σ (upd H p (.lst (ones (ups l)))) { s with heap := z.heap, gens := z.gens, drawn := z.drawn, toks := z.toks } :=
    I.call (ch := []) (Un.laid k hp hn) (I.hok.laid k hp ⟨hlen, out.toList, c, hv, hg⟩) (by rw [g]; exact I.bare) (fun _ y => nomatch y)
  have e : z = { s with heap := z.heap, gens := z.gens, drawn := z.drawn, toks := z.toks } := by
    cases z
    cases s
    cases o
    rfl
  rw [e]
  exact ⟨.ref p, _, J, rfl, q p hn⟩
/-- list(s), s a text -/
def rListTx : List V → Hp → VK → Prop := fun xs H Q => ∃ z : Str, xs = [.str z] ∧ z.length ≤ sizeLine ∧ ∀ p, H p = none → Q (.ref p) (upd H p (.lst (ones z.cps.toList)))
theorem signs_vals {z : Str} {acc : Array Value} (h : ItemsOf (SignAt z) acc z.cps.size) : Vals (ones z.cps.toList) acc.toList := by
  have all : ∀ (l : List Nat) (us : List Value), us.length = l.length → (∀ (j : Nat) (v : Value), us[j]? = some v → ∃ (c : Nat) (u : Tok), l[j]? = some c ∧ v = Value.str (one c) u) → Vals (ones l) us := by
    intro l
    induction l with
    | nil =>
      intro us hl _
      cases us with
      | nil => exact .nil
      | cons u us => simp at hl
    | cons c l ih =>
      intro us hl hg
      cases us with
      | nil => simp at hl
      | cons u us =>
        obtain ⟨d, t, h1, h2⟩ := hg 0 u rfl
        have e : c = d := Option.some.inj h1
        subst e
        refine .cons ⟨t, h2⟩ (ih us (by simpa using hl) fun j v hv => ?_)
        exact hg (j + 1) v hv
  refine all _ _ (by rw [Array.length_toList, Array.length_toList]; exact h.1) fun j v hv => ?_
  rw [Array.getElem?_toList] at hv
  obtain ⟨c, u, h1, h2⟩ := h.2 j v hv
  exact ⟨c, u, by rw [Array.getElem?_toList]; exact h1, h2⟩
theorem cr_listTx (hc : X.calm = true) : CallR X (.type "list") rListTx := by
  intro pins s σ H xs us Q I r h
  obtain ⟨z, rfl, hl, q⟩ := h
  cases r with
  | cons a b =>
    cases b
    obtain ⟨t, rfl⟩ := a
    refine call_list_str (I.ok.hd hc) z t (hn := hl) fun h' tk acc c k hg hi => ?_
    have hz : (ones z.cps.toList).length ≤ sizeLine := by
      rw [List.length_map, Array.length_toList]
      exact hl
    exact ⟨.ref _, upd H s.heap.objs.size (.lst (ones z.cps.toList)), I.laid (t' := tk) k (Nat.le_refl _) ⟨hz, acc.toList, c, signs_vals hi, by simpa using hg⟩, rfl, q _ (I.hok.fresh (Nat.le_refl _))⟩
/-- a ** b, the result below 2 ^ 27 bits -/
theorem op_powW : OpR X (binaryOp .Pow) (rI (fun i j => 0 ≤ j ∧ (Builtin.Int.intBits i : Int) * j ≤ 2 ^ 27) fun i j => .int (i ^ j.toNat)) := opI fun _ _ _ _ _ _ _ hc q => pow_int hc.1 hc.2 q
end
end Tx

set_option Elab.async false
set_option linter.all false
set_option maxRecDepth 100000
set_option maxHeartbeats 3200000
/-! what the judges are worth, over plain data -/
namespace Tm
open PySem PySem.Spec PySem.Builtin PySem.Builtin.Str PyProof.Rows L2 Tx

abbrev cds (z : Str) : List Nat := z.cps.toList
theorem cds_ext {y z : Str} (h : cds y = cds z) : y = z := by
  cases y with
  | mk a =>
    cases z with
    | mk b =>
      have e : a = b := Array.toList_inj.mp h
      rw [e]
theorem cds_len (z : Str) : (cds z).length = z.length := by
  show z.cps.toList.length = z.cps.size
  rw [Array.length_toList]
/-- every sign of z is one of sg -/
def only (z sg : Str) : Bool := (cds z).all fun c => decide (c ∈ cds sg)
theorem only_iff {z sg : Str} : only z sg = true ↔ ∀ c ∈ cds z, c ∈ cds sg := by
  unfold only
  rw [List.all_eq_true]
  exact ⟨fun h c hc => of_decide_eq_true (h c hc), fun h c hc => decide_eq_true (h c hc)⟩
theorem getD_mem {z : Str} {k : Nat} (h : k < z.length) : z.cps.getD k 0 ∈ cds z := by
  have h' : k < z.cps.size := h
  have e : z.cps.getD k 0 = z.cps[k] := by simp [Array.getD, h']
  rw [e]
  exact Array.getElem_mem_toList h'
theorem mem_getD {z : Str} {c : Nat} (h : c ∈ cds z) : ∃ k, k < z.length ∧ z.cps.getD k 0 = c := by
  obtain ⟨k, hk, e⟩ := List.getElem_of_mem h
  have hk' : k < z.cps.size := by rw [Array.length_toList] at hk; exact hk
  refine ⟨k, hk', ?_⟩
  rw [← e]
  simp [Array.getD, hk']
theorem goes_iff {sg : Str} {c : Nat} : sg.cps.contains c = true ↔ c ∈ cds sg := by
  rw [Array.contains_iff_mem, Array.mem_toList_iff]
/-- strip with all the signs of sg leaves nothing exactly if there is no other sign -/
theorem strip_only (z sg : Str) : decide (Txt.stripChars z sg = Str.empty) = only z sg := by
  unfold Txt.stripChars
  rw [stripBy_eq]
  obtain ⟨a1, a2, a3⟩ := lo_facts sg.cps.contains z
  obtain ⟨b1, b2, b3, b4⟩ := hi_facts sg.cps.contains z _ a1
  generalize stripLo sg.cps.contains true z = lo at a1 a2 a3 b1 b2 b3 b4 ⊢
  generalize stripHi sg.cps.contains true z lo = hi at b1 b2 b3 b4 ⊢
  have key : strSub z lo hi = Str.empty ↔ lo = hi := by
    constructor
    · intro h
      have e : (z.cps.extract lo hi).size = 0 := by
        have := congrArg (fun y : Str => y.cps.size) h
        exact this
      rw [Array.size_extract] at e
      have hb : hi ≤ z.cps.size := b2
      omega
    · intro h
      subst h
      refine cds_ext ?_
      show (z.cps.extract lo lo).toList = (Str.empty).cps.toList
      rw [Array.extract_empty_of_stop_le_start (Nat.le_refl _)]
      rfl
  by_cases h : only z sg = true
  · rw [h]
    refine decide_eq_true (key.mpr ?_)
    have all := only_iff.mp h
    rcases Nat.lt_or_ge lo z.length with hl | hl
    · exfalso
      rcases a3 with e | e
      · omega
      · have := goes_iff.mpr (all _ (getD_mem hl))
        rw [e] at this
        cases this
    · have c2 : hi ≤ z.length := b2
      omega
  · have h' : only z sg = false := by simpa using h
    rw [h']
    refine decide_eq_false fun q => h (only_iff.mpr fun c hc => ?_)
    have e := key.mp q
    obtain ⟨k, hk, rfl⟩ := mem_getD hc
    rcases Nat.lt_or_ge k lo with u | u
    · exact goes_iff.mp (a2 k u)
    · exact goes_iff.mp (b3 k (by omega) hk)

/-! ### the judges -/
def big : Int := 10 ^ 200
def isInt : PyData → Bool
  | .int n => decide (n.natAbs < 10 ^ 200)
  | _ => false
def has (sg : Str) (most : Nat) : PyData → Bool
  | .str z => decide (z.length ≤ most) && only z sg
  | _ => false
def alpha : Str := "abcdefghijklmnopqrstuvwxyz"
def name : PyData → Bool
  | .str z => decide (z.length ≤ 8) && only z alpha && decide (z ≠ Str.empty)
  | _ => false
def rise (z : Str) : Bool := decide (cds z = ups (cds z))
def letters : PyData → Bool
  | .str z => decide (z.length ≤ 3) && only z alpha && decide (z ≠ Str.empty) && rise z
  | _ => false
def prime : PyData → Bool
  | .int n => decide (n = 2 ∨ n = 3 ∨ n = 5 ∨ n = 7)
  | _ => false
def lows (z : Str) : Bool := (cds z).all fun c => decide (97 ≤ c) && decide (c ≤ 122)
def small (most : Nat) : PyData → Bool
  | .str z => decide (1 ≤ z.length) && decide (z.length ≤ most) && lows z
  | _ => false
theorem alpha_iff (c : Nat) : c ∈ cds alpha ↔ 97 ≤ c ∧ c ≤ 122 := by
  have e : cds alpha = (List.range 26).map (· + 97) := by decide +kernel
  rw [e, List.mem_map]
  constructor
  · rintro ⟨k, hk, rfl⟩
    have := List.mem_range.mp hk
    omega
  · rintro ⟨h1, h2⟩
    exact ⟨c - 97, List.mem_range.mpr (by omega), by omega⟩
theorem only_alpha (z : Str) : only z alpha = lows z := by
  unfold only lows
  congr 1
  funext c
  by_cases h : c ∈ cds alpha
  · have := (alpha_iff c).mp h
    simp [h, this.1, this.2]
  · have h2 : ¬ (97 ≤ c ∧ c ≤ 122) := fun q => h ((alpha_iff c).mpr q)
    rw [decide_eq_false h, ← Bool.decide_and, decide_eq_false h2]
theorem nonempty_iff (z : Str) : z ≠ Str.empty ↔ 1 ≤ z.length := by
  constructor
  · intro h
    rcases Nat.eq_zero_or_pos z.length with e | e
    · exfalso
      apply h
      apply cds_ext
      have : (cds z).length = 0 := by rw [cds_len]; exact e
      rw [List.length_eq_zero_iff.mp this]
      rfl
    · exact e
  · intro h e
    subst e
    exact absurd h (by decide)
theorem name_small (d : PyData) : name d = small 8 d := by
  cases d with
  | str z =>
    show (decide (z.length ≤ 8) && only z alpha && decide (z ≠ Str.empty)) = (decide (1 ≤ z.length) && decide (z.length ≤ 8) && lows z)
    rw [only_alpha, decide_eq_decide.mpr (nonempty_iff z)]
    cases decide (z.length ≤ 8) <;> cases lows z <;> cases decide (1 ≤ z.length) <;> rfl
  | _ => rfl
theorem letters_small (d : PyData) : letters d = (small 3 d && (match d with | .str z => rise z | _ => false)) := by
  cases d with
  | str z =>
    show (decide (z.length ≤ 3) && only z alpha && decide (z ≠ Str.empty) && rise z) = (decide (1 ≤ z.length) && decide (z.length ≤ 3) && lows z && rise z)
    rw [only_alpha, decide_eq_decide.mpr (nonempty_iff z)]
    cases decide (z.length ≤ 3) <;> cases lows z <;> cases decide (1 ≤ z.length) <;> cases rise z <;> rfl
  | _ => rfl

/-! ### how numbers and texts are shown -/
theorem shown_int {n k : Int} (h : (toString n : String) = toString k) : n = k := by
  have e := congrArg String.toInt? h
  simpa using e

/-- a text that is judged: short, plain signs, few unlike ones -/
structure Fine (z : Str) : Prop where
  long : z.length ≤ 4001
  few : (met [] (cds z)).length < 64
  plain : ∀ c ∈ cds z, c < 128
/-- the four texts of the primes -/
abbrev four : List V := [.str "2", .str "3", .str "5", .str "7"]
/-- data that is judged -/
def Ok : PyData → Prop
  | .int n => n.natAbs.log2 < 1920
  | .str z => Fine z
  | d => d.showable = true ∧ d.depth < 60 ∧ d.shown.length ≤ sizeLine ∧ inV (.str d.shown) four = false
end Tm

set_option linter.all false
/-! turns of points, as lists: put together, undone, and how often they lead all points back -/
namespace Pm
variable {n p q : Nat} {t u v : List Nat}
/-- where a turn leads a point -/
def to (t : List Nat) (p : Nat) : Nat := t.getD p 0
def Turn (n : Nat) (t : List Nat) : Prop := t.Perm (List.range n)
theorem to_get (h : p < t.length) : to t p = t[p] := by
  unfold to
  rw [List.getD_eq_getElem?_getD, List.getElem?_eq_getElem h]
  rfl
theorem Turn.len (h : Turn n t) : t.length = n := by
  have := h.length_eq
  rw [List.length_range] at this
  exact this
theorem Turn.mem (h : Turn n t) : p ∈ t ↔ p < n := h.mem_iff.trans List.mem_range
theorem Turn.nodup (h : Turn n t) : t.Nodup := h.nodup_iff.mpr List.nodup_range
theorem Turn.lt (h : Turn n t) (hp : p < n) : to t p < n := by
  have hp' : p < t.length := by rw [h.len]; exact hp
  rw [to_get hp']
  exact h.mem.mp (List.getElem_mem hp')
def joint (t u : List Nat) : List Nat := t.map (to u)
theorem range_map (h : u.length = n) : (List.range n).map (to u) = u := by
  apply List.ext_getElem
  · rw [List.length_map, List.length_range, h]
  · intro i h1 h2
    rw [List.getElem_map, List.getElem_range, to_get h2]
theorem turn_joint (h : Turn n t) (k : Turn n u) : Turn n (joint t u) := by
  have := h.map (to u)
  rw [range_map k.len] at this
  exact this.trans k
theorem joint_len : (joint t u).length = t.length := List.length_map ..
theorem to_joint (hp : p < t.length) : to (joint t u) p = to u (to t p) := by
  rw [to_get (by rw [joint_len]; exact hp), to_get hp]
  exact List.getElem_map ..
theorem joint_assoc (h : Turn n t) (k : Turn n u) : joint (joint t u) v = joint t (joint u v) := by
  unfold joint
  rw [List.map_map]
  refine List.map_congr_left fun x hx => ?_
  exact (to_joint (t := u) (u := v) (by rw [k.len]; exact h.mem.mp hx)).symm
theorem to_still (hp : p < n) : to (List.range n) p = p := by
  rw [to_get (by rw [List.length_range]; exact hp), List.getElem_range]
theorem joint_still (h : Turn n t) : joint t (List.range n) = t := by
  unfold joint
  have : t.map (to (List.range n)) = t.map id := List.map_congr_left fun x hx => to_still (h.mem.mp hx)
  rw [this, List.map_id]
theorem still_joint (h : Turn n t) : joint (List.range n) t = t := range_map h.len
theorem still_turn : Turn n (List.range n) := List.Perm.refl _
/-- two turns are the same if they lead all points so -/
theorem turn_ext (h : Turn n t) (k : Turn n u) (e : ∀ p, p < n → to t p = to u p) : t = u := by
  rw [← range_map h.len, ← range_map k.len]
  exact List.map_congr_left fun x hx => e x (List.mem_range.mp hx)
theorem nodup_inj {l : List Nat} (h : l.Nodup) {i j : Nat} (hi : i < l.length) (hj : j < l.length) (e : l[i] = l[j]) : i = j := by
  rcases Nat.lt_trichotomy i j with c | c | c
  · exact absurd e (List.pairwise_iff_getElem.mp h i j hi hj c)
  · exact c
  · exact absurd e.symm (List.pairwise_iff_getElem.mp h j i hj hi c)
def undone (t : List Nat) : List Nat := (List.range t.length).map fun q => t.idxOf q
theorem to_idx (h : Turn n t) (hq : q < n) : to t (t.idxOf q) = q := by
  have hm := h.mem.mpr hq
  rw [to_get (List.idxOf_lt_length_of_mem hm)]
  exact List.getElem_idxOf _
theorem idx_to (h : Turn n t) (hp : p < n) : t.idxOf (to t p) = p := by
  have hp' : p < t.length := by rw [h.len]; exact hp
  have hm : to t p ∈ t := h.mem.mpr (h.lt hp)
  have hl := List.idxOf_lt_length_of_mem hm
  have e : t[t.idxOf (to t p)] = t[p] := by
    rw [List.getElem_idxOf]
    exact to_get hp'
  exact nodup_inj h.nodup hl hp' e
theorem undone_len : (undone t).length = t.length := by
  unfold undone
  rw [List.length_map, List.length_range]
theorem to_undone (h : Turn n t) (hq : q < n) : to (undone t) q = t.idxOf q := by
  have hq' : q < t.length := by rw [h.len]; exact hq
  rw [to_get (by rw [undone_len]; exact hq')]
  unfold undone
  rw [List.getElem_map, List.getElem_range]
theorem turn_undone (h : Turn n t) : Turn n (undone t) := by
  have h1 : undone t = (List.range n).map fun q => t.idxOf q := by unfold undone; rw [h.len]
  have h2 : t.map (fun q => t.idxOf q) = List.range n := by
    apply List.ext_getElem
    · rw [List.length_map, h.len, List.length_range]
    · intro i h3 h4
      rw [List.length_range] at h4
      rw [List.getElem_map, List.getElem_range]
      have := idx_to h h4
      rw [to_get (by rw [h.len]; exact h4)] at this
      exact this
  have h3 := (h.symm).map fun q => t.idxOf q
  rw [h2] at h3
  rw [h1]
  exact h3
theorem joint_undone (h : Turn n t) : joint t (undone t) = List.range n :=
  turn_ext (turn_joint h (turn_undone h)) still_turn fun p hp => by
    rw [to_joint (by rw [h.len]; exact hp), to_undone h (h.lt hp), idx_to h hp, to_still hp]
theorem undone_joint (h : Turn n t) : joint (undone t) t = List.range n :=
  turn_ext (turn_joint (turn_undone h) h) still_turn fun p hp => by
    rw [to_joint (by rw [(turn_undone h).len]; exact hp), to_undone h hp, to_idx h hp, to_still hp]
theorem undone_undone (h : Turn n t) : undone (undone t) = t := by
  have k := turn_undone h
  have e : joint (joint (undone (undone t)) (undone t)) t = joint (undone (undone t)) (joint (undone t) t) := joint_assoc (turn_undone k) k
  rw [undone_joint k, undone_joint h, still_joint h, joint_still (turn_undone k)] at e
  exact e.symm
theorem undone_of_joint (h : Turn n t) (k : Turn n u) : undone (joint t u) = joint (undone u) (undone t) := by
  have hj := turn_joint h k
  have hu := turn_undone hj
  refine turn_ext hu (turn_joint (turn_undone k) (turn_undone h)) fun p hp => ?_
  rw [to_undone hj hp, to_joint (by rw [(turn_undone k).len]; exact hp), to_undone k hp]
  have hp1 : u.idxOf p < n := by
    have := List.idxOf_lt_length_of_mem (k.mem.mpr hp)
    rw [k.len] at this
    exact this
  rw [to_undone h hp1]
  have hp2 : t.idxOf (u.idxOf p) < n := by
    have := List.idxOf_lt_length_of_mem (h.mem.mpr hp1)
    rw [h.len] at this
    exact this
  have e : to (joint t u) (t.idxOf (u.idxOf p)) = p := by rw [to_joint (by rw [h.len]; exact hp2), to_idx h hp1, to_idx k hp]
  have := idx_to hj hp2
  rw [e] at this
  exact this
theorem to_inj (h : Turn n t) (hp : p < n) (hq : q < n) (e : to t p = to t q) : p = q := by
  rw [← idx_to h hp, e, idx_to h hq]
/-! again and again -/
def it (t : List Nat) : Nat → Nat → Nat
  | 0, p => p
  | k + 1, p => to t (it t k p)
theorem it_lt (h : Turn n t) (hp : p < n) : ∀ k, it t k p < n
  | 0 => hp
  | k + 1 => h.lt (it_lt h hp k)
theorem it_add (t : List Nat) (a : Nat) (p : Nat) : ∀ b, it t (b + a) p = it t b (it t a p)
  | 0 => by rw [Nat.zero_add]; rfl
  | b + 1 => by
    rw [show b + 1 + a = (b + a) + 1 by omega]
    show to t (it t (b + a) p) = to t (it t b (it t a p))
    rw [it_add t a p b]
theorem it_comm (t : List Nat) (a b p : Nat) : it t a (it t b p) = it t b (it t a p) := by rw [← it_add, ← it_add, Nat.add_comm]
theorem it_mul {m : Nat} (e : it t m p = p) : ∀ c, it t (m * c) p = p
  | 0 => rfl
  | c + 1 => by
    rw [Nat.mul_succ, it_add, e]
    exact it_mul e c
theorem it_inj (h : Turn n t) (hp : p < n) (hq : q < n) : ∀ k, it t k p = it t k q → p = q
  | 0, e => e
  | k + 1, e => it_inj h hp hq k (to_inj h (it_lt h hp k) (it_lt h hq k) e)
/-- if no earlier one comes back, then all that come back are multiples -/
theorem it_dvd {m : Nat} (h : Turn n t) (hp : p < n) (hm : 0 < m) (e : it t m p = p) (hl : ∀ k, 0 < k → k < m → it t k p ≠ p) (k : Nat) : it t k p = p ↔ m ∣ k := by
  constructor
  · intro hk
    have e2 : it t (k % m) p = p := by
      have := Nat.div_add_mod k m
      have e3 : it t (k % m + m * (k / m)) p = p := by rw [Nat.add_comm, this]; exact hk
      rw [it_add, it_mul e] at e3
      exact e3
    by_cases h0 : k % m = 0
    · exact Nat.dvd_of_mod_eq_zero h0
    · exact absurd e2 (hl _ (Nat.pos_of_ne_zero h0) (Nat.mod_lt _ hm))
  · rintro ⟨c, rfl⟩
    exact it_mul e c
/-- the order: just the multiples lead all points back -/
def Ord (n : Nat) (t : List Nat) (L : Nat) : Prop := 0 < L ∧ ∀ k, (∀ p, p < n → it t k p = p) ↔ L ∣ k
theorem ord_uniq {L M : Nat} (a : Ord n t L) (b : Ord n t M) : L = M :=
  Nat.dvd_antisymm ((a.2 M).mp ((b.2 M).mpr (Nat.dvd_refl M))) ((b.2 L).mp ((a.2 L).mpr (Nat.dvd_refl L)))
theorem ord_undone {L : Nat} (h : Turn n t) (a : Ord n t L) : Ord n (undone t) L := by
  refine ⟨a.1, fun k => Iff.trans ?_ (a.2 k)⟩
  have b1 : ∀ k p, p < n → it t k (it (undone t) k p) = p := by
    intro k
    induction k with
    | zero => intro p hp; rfl
    | succ k ih =>
      intro p hp
      have hq := it_lt (turn_undone h) hp k
      have e : it t (k + 1) (to (undone t) (it (undone t) k p)) = it t k (to t (to (undone t) (it (undone t) k p))) := it_add t 1 _ k
      show it t (k + 1) (to (undone t) (it (undone t) k p)) = p
      rw [e, to_undone h hq, to_idx h hq]
      exact ih p hp
  constructor
  · intro hk p hp
    have := b1 k p hp
    rw [hk p hp] at this
    exact this
  · intro hk p hp
    have := b1 k p hp
    rw [hk _ (it_lt (turn_undone h) hp k)] at this
    exact this
theorem ord_conj {L : Nat} {c d s : List Nat} (hc : Turn n c) (hd : Turn n d) (hs : Turn n s) (e : ∀ p, p < n → to d (to s p) = to s (to c p)) (a : Ord n c L) : Ord n d L := by
  refine ⟨a.1, fun k => Iff.trans ?_ (a.2 k)⟩
  have b1 : ∀ k p, p < n → it d k (to s p) = to s (it c k p) := by
    intro k
    induction k with
    | zero => intro p hp; rfl
    | succ k ih =>
      intro p hp
      show to d (it d k (to s p)) = to s (to c (it c k p))
      rw [ih p hp, e _ (it_lt hc hp k)]
  constructor
  · intro hk p hp
    have := b1 k p hp
    rw [hk _ (hs.lt hp)] at this
    exact (to_inj hs hp (it_lt hc hp k) this).symm
  · intro hk q hq
    have := b1 k (s.idxOf q) (by
      have := List.idxOf_lt_length_of_mem (hs.mem.mpr hq)
      rw [hs.len] at this
      exact this)
    rw [to_idx hs hq, hk _ (by
      have := List.idxOf_lt_length_of_mem (hs.mem.mpr hq)
      rw [hs.len] at this
      exact this), to_idx hs hq] at this
    exact this
theorem ord_one {L : Nat} (h : Turn n t) (a : Ord n t L) : L = 1 ↔ t = List.range n := by
  have e := a.2 1
  constructor
  · intro hl
    refine turn_ext h still_turn fun p hp => ?_
    rw [to_still hp]
    exact e.mpr (by rw [hl]; exact Nat.dvd_refl 1) p hp
  · intro ht
    exact Nat.dvd_one.mp (e.mp fun p hp => by
      show to t p = p
      rw [ht]
      exact to_still hp)
/-- so many of a turn -/
def pw (t : List Nat) : Nat → List Nat
  | 0 => t
  | k + 1 => joint (pw t k) t
theorem turn_pw (h : Turn n t) : ∀ k, Turn n (pw t k)
  | 0 => h
  | k + 1 => turn_joint (turn_pw h k) h
theorem to_pw (h : Turn n t) (hp : p < n) : ∀ k, to (pw t k) p = it t (k + 1) p
  | 0 => rfl
  | k + 1 => by
    show to (joint (pw t k) t) p = to t (it t (k + 1) p)
    rw [to_joint (by rw [(turn_pw h k).len]; exact hp), to_pw h hp k]
theorem pw_still {L k : Nat} (h : Turn n t) (a : Ord n t L) : pw t k = List.range n ↔ L ∣ k + 1 := by
  rw [← a.2 (k + 1)]
  constructor
  · intro e p hp
    rw [← to_pw h hp, e, to_still hp]
  · intro e
    exact turn_ext (turn_pw h k) still_turn fun p hp => by rw [to_pw h hp, e p hp, to_still hp]
end Pm

set_option linter.all false
/-! the rows of points that a turn leads round -/
namespace Pm
variable {n : Nat} {t : List Nat}
theorem len_le : ∀ {l r : List Nat}, l.Nodup → (∀ x ∈ l, x ∈ r) → l.length ≤ r.length
  | [], _, _, _ => Nat.zero_le _
  | a :: l, r, hn, hs => by
    have ha := hs a List.mem_cons_self
    have hn' := List.nodup_cons.mp hn
    have := len_le (l := l) (r := r.erase a) hn'.2 fun x hx => by
      have hne : x ≠ a := fun e => hn'.1 (e ▸ hx)
      exact (List.mem_erase_of_ne hne).mpr (hs x (List.mem_cons_of_mem _ hx))
    have h1 := List.length_erase_of_mem ha
    have h2 := List.length_pos_of_mem ha
    rw [List.length_cons]
    omega
theorem small_len {l : List Nat} (h : l.Nodup) (hl : ∀ x ∈ l, x < n) : l.length ≤ n := by
  have := len_le (r := List.range n) h fun x hx => List.mem_range.mpr (hl x hx)
  rw [List.length_range] at this
  exact this
/-- what is known ahead of the start i -/
structure Out (n : Nat) (t : List Nat) (i : Nat) (S M : List Nat) : Prop where
  nd : S.Nodup
  lt : ∀ p ∈ S, p < n
  cl : ∀ p, p < n → (p ∈ S ↔ to t p ∈ S)
  all : ∀ p, p < i → p ∈ S
  per : ∀ k, (∀ p ∈ S, it t k p = p) ↔ ∀ m ∈ M, m ∣ k
  sz : ∀ m ∈ M, 1 ≤ m ∧ m ≤ n
  ln : M.length ≤ i
def walk (t : List Nat) (s j : Nat) : List Nat := (List.range j).map fun k => it t k s
theorem walk_succ (t : List Nat) (s j : Nat) : walk t s (j + 1) = walk t s j ++ [it t j s] := by
  unfold walk
  rw [List.range_succ, List.map_append]
  rfl
theorem mem_walk {s j x : Nat} : x ∈ walk t s j ↔ ∃ k, k < j ∧ it t k s = x := by
  unfold walk
  rw [List.mem_map]
  constructor
  · rintro ⟨k, hk, e⟩
    exact ⟨k, List.mem_range.mp hk, e⟩
  · rintro ⟨k, hk, e⟩
    exact ⟨k, List.mem_range.mpr hk, e⟩
theorem walk_len (t : List Nat) (s j : Nat) : (walk t s j).length = j := by
  unfold walk
  rw [List.length_map, List.length_range]
/-- what is known on the way from the start s -/
structure In (S : List Nat) (t : List Nat) (s j : Nat) : Prop where
  nd : (walk t s j).Nodup
  off : ∀ x ∈ walk t s j, x ∉ S
theorem in_zero (S : List Nat) (t : List Nat) (s : Nat) : In S t s 0 := ⟨List.nodup_nil, fun x hx => by cases hx⟩
theorem in_succ {S : List Nat} {s j : Nat} (h : In S t s j) (hp : it t j s ∉ S ++ walk t s j) : In S t s (j + 1) := by
  rw [List.mem_append, not_or] at hp
  constructor
  · rw [walk_succ]
    refine List.nodup_append.mpr ⟨h.nd, by simp, fun x hx y hy e => ?_⟩
    rw [List.mem_singleton.mp hy] at e
    exact hp.2 (e ▸ hx)
  · intro x hx
    rw [walk_succ] at hx
    rcases List.mem_append.mp hx with hx | hx
    · exact h.off x hx
    · rw [List.mem_singleton.mp hx]
      exact hp.1
theorem in_le {S : List Nat} {s j : Nat} (ht : Turn n t) (hs : s < n) (h : In S t s j) : j ≤ n := by
  have := small_len (n := n) h.nd fun x hx => by
    obtain ⟨k, _, e⟩ := mem_walk.mp hx
    rw [← e]
    exact it_lt ht hs k
  rw [walk_len] at this
  exact this
theorem out_zero : Out n t 0 [] [] := ⟨List.nodup_nil, (fun p hp => (by cases hp)), (fun p _ => ⟨(fun h => (by cases h)), (fun h => (by cases h))⟩), (fun p hp => absurd hp (Nat.not_lt_zero p)), (fun k => ⟨(fun _ m hm => (by cases hm)), (fun _ p hp => (by cases hp))⟩), (fun m hm => (by cases hm)), Nat.le_refl 0⟩
theorem out_same {i : Nat} {S M : List Nat} (h : Out n t i S M) (hi : i ∈ S) : Out n t (i + 1) S M :=
  ⟨h.nd, h.lt, h.cl, fun p hp => by
    rcases Nat.lt_succ_iff_lt_or_eq.mp hp with c | c
    · exact h.all p c
    · rw [c]; exact hi, h.per, h.sz, by have := h.ln; omega⟩
theorem it_mem {i : Nat} {S M : List Nat} (ht : Turn n t) (h : Out n t i S M) {s : Nat} (hs : s < n) : ∀ k, it t k s ∈ S → s ∈ S
  | 0, e => e
  | k + 1, e => it_mem ht h hs k ((h.cl _ (it_lt ht hs k)).mpr e)
theorem it_back {s j : Nat} {S M : List Nat} {i : Nat} (ht : Turn n t) (h : Out n t i S M) (hs : s < n) (hI : In S t s (j + 1)) (hp : it t (j + 1) s ∈ S ++ walk t s (j + 1)) : it t (j + 1) s = s := by
  have h0 : s ∉ S := hI.off s (mem_walk.mpr ⟨0, Nat.succ_pos j, rfl⟩)
  rcases List.mem_append.mp hp with hp | hp
  · exact absurd (it_mem ht h hs _ hp) h0
  · obtain ⟨k, hk, e⟩ := mem_walk.mp hp
    cases k with
    | zero => exact e.symm
    | succ k =>
      have e2 : it t k s = it t j s := to_inj ht (it_lt ht hs k) (it_lt ht hs j) e
      have hl : (walk t s (j + 1)).length = j + 1 := walk_len ..
      have e3 : (walk t s (j + 1))[k]'(by omega) = (walk t s (j + 1))[j]'(by omega) := by
        unfold walk
        rw [List.getElem_map, List.getElem_map, List.getElem_range, List.getElem_range]
        exact e2
      have := nodup_inj hI.nd _ _ e3
      omega
theorem out_succ {j i : Nat} {S M : List Nat} (ht : Turn n t) (h : Out n t i S M) (hs : i < n) (hI : In S t i (j + 1)) (hp : it t (j + 1) i ∈ S ++ walk t i (j + 1)) : Out n t (i + 1) (S ++ walk t i (j + 1)) (M ++ [j + 1]) := by
  have hb := it_back ht h hs hI hp
  have hne : ∀ k, 0 < k → k < j + 1 → it t k i ≠ i := by
    intro k h0 hk e
    have hl : (walk t i (j + 1)).length = j + 1 := walk_len ..
    have e3 : (walk t i (j + 1))[k]'(by omega) = (walk t i (j + 1))[0]'(by omega) := by
      unfold walk
      rw [List.getElem_map, List.getElem_map, List.getElem_range, List.getElem_range]
      exact e
    have := nodup_inj hI.nd _ _ e3
    omega
  refine ⟨?_, ?_, ?_, ?_, ?_, ?_, ?_⟩
  · refine List.nodup_append.mpr ⟨h.nd, hI.nd, fun x hx y hy e => ?_⟩
    exact hI.off y hy (e ▸ hx)
  · intro p hp'
    rcases List.mem_append.mp hp' with c | c
    · exact h.lt p c
    · obtain ⟨k, _, e⟩ := mem_walk.mp c
      rw [← e]
      exact it_lt ht hs k
  · intro p hpn
    rw [List.mem_append, List.mem_append]
    constructor
    · rintro (c | c)
      · exact .inl ((h.cl p hpn).mp c)
      · obtain ⟨k, hk, e⟩ := mem_walk.mp c
        refine .inr (mem_walk.mpr ?_)
        by_cases hk2 : k + 1 < j + 1
        · exact ⟨k + 1, hk2, by show to t (it t k i) = to t p; rw [e]⟩
        · have : k = j := by omega
          subst this
          exact ⟨0, by omega, by
            show i = to t p
            rw [← e]
            exact hb.symm⟩
    · rintro (c | c)
      · exact .inl ((h.cl p hpn).mpr c)
      · obtain ⟨k, hk, e⟩ := mem_walk.mp c
        refine .inr (mem_walk.mpr ?_)
        cases k with
        | zero =>
          refine ⟨j, Nat.lt_succ_self j, to_inj ht (it_lt ht hs j) hpn ?_⟩
          exact hb.trans e
        | succ k => exact ⟨k, by omega, to_inj ht (it_lt ht hs k) hpn e⟩
  · intro p hp'
    rcases Nat.lt_succ_iff_lt_or_eq.mp hp' with c | c
    · exact List.mem_append_left _ (h.all p c)
    · rw [c]
      exact List.mem_append_right _ (mem_walk.mpr ⟨0, Nat.succ_pos j, rfl⟩)
  · intro k
    have e1 : (∀ p ∈ walk t i (j + 1), it t k p = p) ↔ (j + 1) ∣ k := by
      rw [← it_dvd ht hs (Nat.succ_pos j) hb hne k]
      constructor
      · intro a
        exact a i (mem_walk.mpr ⟨0, Nat.succ_pos j, rfl⟩)
      · intro a p hp'
        obtain ⟨m, _, e⟩ := mem_walk.mp hp'
        rw [← e, it_comm, a]
    constructor
    · intro a m hm
      rcases List.mem_append.mp hm with c | c
      · exact (h.per k).mp (fun p hp' => a p (List.mem_append_left _ hp')) m c
      · rw [List.mem_singleton.mp c]
        exact e1.mp fun p hp' => a p (List.mem_append_right _ hp')
    · intro a p hp'
      rcases List.mem_append.mp hp' with c | c
      · exact (h.per k).mpr (fun m hm => a m (List.mem_append_left _ hm)) p c
      · exact e1.mpr (a _ (List.mem_append_right _ (List.mem_singleton.mpr rfl))) p c
  · intro m hm
    rcases List.mem_append.mp hm with c | c
    · exact h.sz m c
    · rw [List.mem_singleton.mp c]
      exact ⟨by omega, in_le ht hs hI⟩
  · have := h.ln
    rw [List.length_append, List.length_singleton]
    omega
/-- what the lengths tell -/
structure Lens (n : Nat) (t : List Nat) (M : List Nat) : Prop where
  per : ∀ k, (∀ p, p < n → it t k p = p) ↔ ∀ m ∈ M, m ∣ k
  sz : ∀ m ∈ M, 1 ≤ m ∧ m ≤ n
  ln : M.length ≤ n
theorem out_end {S M : List Nat} (h : Out n t n S M) : Lens n t M :=
  ⟨fun k => Iff.trans ⟨fun a p hp => a p (h.lt p hp), fun a p hp => a p (h.all p hp)⟩ (h.per k), h.sz, h.ln⟩
def lcmOf (M : List Nat) : Nat := M.foldl (fun a m => Nat.lcm a m) 1
theorem lcm_dvd (k : Nat) : ∀ (M : List Nat) (a : Nat), M.foldl (fun a m => Nat.lcm a m) a ∣ k ↔ a ∣ k ∧ ∀ m ∈ M, m ∣ k
  | [], a => by simp
  | m :: M, a => by
    show M.foldl (fun a m => Nat.lcm a m) (Nat.lcm a m) ∣ k ↔ _
    rw [lcm_dvd k M, Nat.lcm_dvd_iff]
    constructor
    · rintro ⟨⟨h1, h2⟩, h3⟩
      refine ⟨h1, fun x hx => ?_⟩
      rcases List.mem_cons.mp hx with rfl | hx
      · exact h2
      · exact h3 x hx
    · rintro ⟨h1, h2⟩
      exact ⟨⟨h1, h2 m List.mem_cons_self⟩, fun x hx => h2 x (List.mem_cons_of_mem _ hx)⟩
theorem lcm_take {M : List Nat} {i m : Nat} (h : M[i]? = some m) : lcmOf (M.take (i + 1)) = Nat.lcm (lcmOf (M.take i)) m := by
  unfold lcmOf
  rw [List.take_add_one, h, List.foldl_append]
  rfl
theorem lcm_pos : ∀ (M : List Nat), (∀ m ∈ M, 1 ≤ m) → ∀ a, 0 < a → 0 < M.foldl (fun a m => Nat.lcm a m) a
  | [], _, a, h => h
  | m :: M, hM, a, h => lcm_pos M (fun x hx => hM x (List.mem_cons_of_mem _ hx)) _ (Nat.lcm_pos h (hM m List.mem_cons_self))
theorem lcm_bound {b : Nat} (hb : 1 ≤ b) : ∀ (M : List Nat), (∀ m ∈ M, m ≤ b) → ∀ a, M.foldl (fun a m => Nat.lcm a m) a ≤ a * b ^ M.length
  | [], _, a => by simp
  | m :: M, hM, a => by
    have h1 := lcm_bound hb M (fun x hx => hM x (List.mem_cons_of_mem _ hx)) (Nat.lcm a m)
    have h2 : Nat.lcm a m ≤ a * m := by
      unfold Nat.lcm
      exact Nat.div_le_self _ _
    have h3 : a * m ≤ a * b := Nat.mul_le_mul_left _ (hM m List.mem_cons_self)
    show M.foldl (fun a m => Nat.lcm a m) (Nat.lcm a m) ≤ a * b ^ (M.length + 1)
    refine Nat.le_trans h1 (Nat.le_trans (Nat.mul_le_mul_right _ (Nat.le_trans h2 h3)) ?_)
    rw [Nat.pow_succ, Nat.mul_assoc, Nat.mul_comm b]
    exact Nat.le_refl _
theorem ord_lcm {M : List Nat} (h : Lens n t M) : Ord n t (lcmOf M) :=
  ⟨lcm_pos M (fun m hm => (h.sz m hm).1) 1 Nat.one_pos, fun k => by
    rw [h.per k]
    unfold lcmOf
    rw [lcm_dvd k M 1]
    exact ⟨fun a => ⟨Nat.one_dvd k, a⟩, fun a => a.2⟩⟩
end Pm

set_option Elab.async false
set_option linter.all false
set_option maxRecDepth 100000
set_option maxHeartbeats 4000000
/-! rules for tuples of numbers: enumerate(t), sorted(t), t.index(n) -/
namespace Ur
open PySem PySem.Spec PyProof.Rows L2
open Sem (wp)
open AutoSeq1 (wpAny_loadPart')
theorem meets_enumerate_newT (l : Addr) (items : Array Value) (n : Nat) (dct : Option Addr) (sl : Array (Option Value)) :
    Meets (Builtin.«enumerate.__new__» ⟨[.type "enumerate", .ref l], []⟩) (fun _ R s => s.heap.get? l = some { cls := .type "tuple", dict := dct, data := .seq items n, slots := sl } ∧
      R (.ok (.ret (.ref (s.heap.push { cls := .type "tuple_iterator", data := .fields #[.ref l, .int 0 0] }).objs.size)))
        { s with heap := (s.heap.push { cls := .type "tuple_iterator", data := .fields #[.ref l, .int 0 0] }).push { cls := .type "enumerate", data := .fields #[.none, .bool false, .ref s.heap.objs.size, rawInt 0, .none, .none] } }) :=
  .of_wp fun prog w A R s h => by
    obtain ⟨hp, g, d, tk, os⟩ := s; obtain ⟨hl, h⟩ := h
    have hsub := sub_enumerate
    have hL : Heap.IsTuple (Shared.heap ⟨hp, g, d, tk, os⟩) l items := ⟨_, hl, rfl, n, rfl⟩
    wp_walk using wpAny_loadPart' hl
    refine wpAny_stack_any fun st => wpAny_pure ?_
    split
    · rename_i c _ _ _ _ _
      cases (c == Value.type "enumerate")
      · wp_walk using wpAny_loadPart' hl, wpAny_pyIter_tuple hL
        exact ⟨_, rfl, h⟩
      · wp_walk using wpAny_loadPart' hl, wpAny_pyIter_tuple hL
        exact ⟨_, rfl, h⟩
    · wp_walk using wpAny_loadPart' hl, wpAny_pyIter_tuple hL
      exact ⟨_, rfl, h⟩
section
variable {prog : Program} {w : World} {A : Around} {E : Value → Shared → Prop} {s : Shared}
theorem call_enumerate_tuple {l : Addr} {items : Array Value} {Q : Value → Shared → Prop} (hL : s.heap.IsTuple l items)
    (h : ∀ h', IsEnum h' (s.heap.objs.size + 1) s.heap.objs.size 0 .none → h'.IsTupleIter s.heap.objs.size l 0 → h'.objs.size = s.heap.objs.size + 2 →
      (∀ b o, s.heap.get? b = some o → h'.get? b = some o) → Q (.ref (s.heap.objs.size + 1)) { s with heap := h' }) :
    wpAny (model prog w) A (call (.type "enumerate") [.ref l]) Q E s := by
  obtain ⟨⟨c, dct, dt, sl⟩, hl, hc, n, hd⟩ := hL
  replace hc : c = .type "tuple" := hc
  replace hd : dt = .seq items n := hd
  subst hc hd
  refine callType_new F.called_enumerate (by decide) (F.typeCall_enumerate_1 _) (F.newCall_enumerate_1 _) (fun obj => F.args_object_init_2 obj _) F.entry_enumerate_new
    (meets_enumerate_newT l items n dct sl) ⟨hl, ?_⟩
  have hz : (s.heap.push { cls := .type "tuple_iterator", data := .fields #[.ref l, .int 0 0] }).objs.size = s.heap.objs.size + 1 := Heap.size_push ..
  show _ ∧ _
  rw [hz]
  have he : IsEnum ((s.heap.push { cls := .type "tuple_iterator", data := .fields #[.ref l, .int 0 0] }).push
      { cls := .type "enumerate", data := .fields #[.none, .bool false, .ref s.heap.objs.size, rawInt 0, .none, .none] }) (s.heap.objs.size + 1) s.heap.objs.size 0 .none := by
    have := Heap.get?_push_size (s.heap.push { cls := .type "tuple_iterator", data := .fields #[.ref l, .int 0 0] })
      (o := { cls := .type "enumerate", data := .fields #[.none, .bool false, .ref s.heap.objs.size, rawInt 0, .none, .none] }) rfl
    rw [hz] at this; exact this
  refine ⟨⟨_, he, rfl⟩, h _ he ⟨_, Heap.get?_push_of_some _ (Heap.get?_push_size _ rfl), rfl, rfl⟩ (by rw [Heap.size_push, hz]) fun b o x => Heap.get?_push_of_some _ (Heap.get?_push_of_some _ x)⟩
end
/-- the tuple at a, each item in a new pair with its place -/
def IteT (K : PySem.W.Frag) (a : Addr) : It :=
  ⟨fun i H => ∃ (xs : List V) (x : V), SqT K H a xs ∧ xs[i]? = some x, fun i H v H' => ∃ T x, v = .ref T ∧ H T = none ∧ H' = upd H T (.tup [.int (i : Nat), x]) ∧ ∀ xs, SqT K H a xs → xs[i]? = some x, fun i H => ∃ xs : List V, SqT K H a xs ∧ xs.length = i⟩
theorem turn_enumT {P : Program} {w : World} {K : PySem.W.Frag} {elts : List Expr} {kk : Nat} {tpos : Pos} (a e it : Addr) :
    Turn P w K (.Tuple elts kk tpos) (IteT K a) [e, it] e (fun i h => (∃ old, IsEnum h e it ((i : Nat) : Int) old) ∧ h.IsTupleIter it a i ∧ e ≠ it) where
  mem := by simp
  obj := fun i h st b hb => by
    obtain ⟨⟨old, he⟩, ⟨o, ho, hc, hd⟩, _⟩ := st
    have e' : b = e ∨ b = it := by simpa using hb
    rcases e' with z | z
    · rw [z]; exact ⟨_, he, fun v q => nomatch q⟩
    · rw [z]; exact ⟨o, ho, fun v q => by rw [hd] at q; cases q⟩
  keep := fun i h h' st k => let ⟨⟨old, he⟩, hi, hne⟩ := st; ⟨⟨old, k e (by simp) _ he⟩, hi.at fun o q => k it (by simp) o q, hne⟩
  item := by
    intro X hP hw hK hc i pins s σ H E I hf st hg
    subst hP hw hK
    obtain ⟨⟨old, he⟩, hit, hne⟩ := st
    obtain ⟨xs, x, hq, hx⟩ := hg
    obtain ⟨its, rv, p, hz⟩ := I.tuple hq
    obtain ⟨u, hu, ru⟩ := rv.get hx
    have hel : e < s.heap.objs.size := Heap.lt_size he
    have hil : it < s.heap.objs.size := by obtain ⟨_, q, _⟩ := hit; exact Heap.lt_size q
    have nai : a ≠ it := by
      rintro rfl
      obtain ⟨o, ho, hco, _⟩ := p
      obtain ⟨o2, ho2, hco2, _⟩ := hit
      rw [ho] at ho2
      cases ho2
      rw [hco] at hco2
      exact absurd hco2 (by decide)
    have nea : e ≠ a := by
      rintro rfl
      obtain ⟨o, ho, hco, _⟩ := p
      have he' : s.heap.get? e = _ := he
      rw [ho] at he'
      cases he'
      injection hco with z
      exact absurd z (by decide)
    have hlt : i < its.toArray.size := by
      have := (List.getElem?_eq_some_iff.mp hu).1
      rw [List.size_toArray]
      exact this
    refine wpAny_pyNext_enum_itemD (Draws.tuple (A := X.A.in1) (I.ok.hd hc) it a nai its.toArray) he ⟨hit, p⟩ hlt hne (by simp; exact ⟨hne, nea⟩) fun u' h' tk hu' ho hst hT hsz hk => ?_
    have hu2 : its.toArray[i]? = some u' := hu'
    have eu : u' = u := by
      have : its.toArray[i]? = some u := by simpa using hu
      rw [this] at hu2
      exact (Option.some.inj hu2).symm
    subst eu
    refine ⟨_, rfl, wpAny_letOwnedTupleGo_enum (s := { s with heap := h', toks := tk + 1 }) ho fun h'' he' sb => ?_⟩
    have hT2 : h''.get? s.heap.objs.size = some { cls := .type "tuple", data := .seq #[.int i tk, u'] } := (sb.2 _ (Nat.ne_of_gt hel)).trans hT
    have new : ObjOk X.prog X.w (upd H s.heap.objs.size (.tup [.int (i : Nat), x])) h'' s.heap.objs.size (.tup [.int (i : Nat), x]) :=
      ⟨by show 2 ≤ sizeLine; decide, [.int i tk, u'], .cons ⟨_, rfl⟩ (.cons ru .nil), ⟨_, hT2, rfl, _, rfl⟩⟩
    have I1 : Inv X pins σ (upd H s.heap.objs.size (.tup [.int (i : Nat), x])) { s with heap := h'', toks := tk + 1 } :=
      I.turnedNew (ch := [e, it]) (fun b ob hb q => (sb.2 b (fun z => hb (by simp [z]))).trans (hk b ob (fun z => hb (by simp [z])) (fun z => hb (by simp [z])) q)) hf (Nat.le_refl _) new
    refine ⟨.ref s.heap.objs.size, _, I1, rfl, ⟨_, x, rfl, I.hok.fresh (Nat.le_refl _), rfl, fun ys hy => by rw [I.tuple_inj hy hq]; exact hx⟩, ⟨⟨u', ?_⟩, hst.1.at fun o q => (sb.2 it (Ne.symm hne)).trans q, hne⟩, fun b hb => ?_⟩
    · have e1 : ((i + 1 : Nat) : Int) = (i : Int) + 1 := by omega
      rw [e1]; exact he'
    · have hb' : b < s.heap.objs.size := by
        have e' : b = e ∨ b = it := by simpa using hb
        rcases e' with z | z
        · rw [z]; exact hel
        · rw [z]; exact hil
      rw [upd_ne (Nat.ne_of_lt hb')]
      exact (hf b hb).1
  done := by
    intro X hP hw hK hc i pins s σ H E I hf st hg
    subst hP hw hK
    obtain ⟨⟨old, he⟩, hit, hne⟩ := st
    obtain ⟨xs, hq, hx⟩ := hg
    obtain ⟨its, rv, p, hz⟩ := I.tuple hq
    obtain ⟨f0, f1, f2, f3, f4, f5⟩ := hf it (by simp)
    have hl := rv.length
    have nai : a ≠ it := by
      rintro rfl
      obtain ⟨o, ho, hco, _⟩ := p
      obtain ⟨o2, ho2, hco2, _⟩ := hit
      rw [ho] at ho2
      cases ho2
      rw [hco] at hco2
      exact absurd hco2 (by decide)
    have en : its.toArray.size = i := by rw [List.size_toArray]; omega
    exact wpAny_pyNext_enum_endD (Draws.tuple (A := X.A.in1) (I.ok.hd hc) it a nai its.toArray) he (by rw [en]; exact ⟨hit, p⟩) fun h' eb => ⟨rfl, I.turned (t' := s.toks) (fun b o hb q => eb b o hb q) f0 f1 f3 f4 f5⟩
  self := fun A i s Q E st h => let ⟨⟨_, he⟩, _⟩ := st; wpAny_pyIter_enum he h
def iEnumT (K : PySem.W.Frag) (ta : TA) : TI := fun σ H R => ta σ H fun vs H1 => ∃ a xs, vs = [.ref a] ∧ SqT K H1 a xs ∧ R (IteT K a) H1
theorem pi_enumT {X : Cx} {e : Expr} {ta : TA} {p pos tpos : Pos} {elts : List Expr} {kk : Nat} (hg : Gl X "enumerate") (hm : X.mg "enumerate" = none) (ha : PA X [e] ta) (hs : starEach [e] X.env = [(false, eval e X.env)] := by rfl) :
    PI X (.Tuple elts kk tpos) (.Call (.Name "enumerate" p) [e] [] pos) (iEnumT X.K ta) := by
  refine ⟨fun pins s σ H R I h => ?_⟩
  refine Call_ (ld_blt I hg hm boot_enumerate (PyProof.Rows.callWith_type1 (thn (ha.run pos pins s σ H _ I h) fun us s1 ⟨vs, H1, I1, r1, q1⟩ => ?_) hs rfl))
  obtain ⟨a, xs, ex, hq, q⟩ := q1
  subst ex
  cases r1 with
  | cons r rr =>
    cases rr
    cases r
    obtain ⟨its, rv, p', hz⟩ := I1.tuple hq
    refine call_enumerate_tuple p' fun h' he hit hsz hk => wpAny_pyIter_enum he ?_
    have I2 : Inv X pins σ H1 { s1 with heap := h' } := I1.kept (t' := s1.toks) hk
    refine ⟨s1.heap.objs.size + 1, [s1.heap.objs.size + 1, s1.heap.objs.size], _, _, H1, rfl, I2, turn_enumT a (s1.heap.objs.size + 1) s1.heap.objs.size, ⟨⟨.none, he⟩, hit, Nat.succ_ne_self _⟩, fun b hb => ?_, q⟩
    have e' : b = s1.heap.objs.size + 1 ∨ b = s1.heap.objs.size := by simpa using hb
    have hle : s1.heap.objs.size ≤ b := by
      rcases e' with z | z
      · rw [z]; exact Nat.le_add_right _ _
      · rw [z]; exact Nat.le_refl _
    exact I1.fpOk hle (I1.hok.fresh hle)
/-! ### sorted(t) -/
section
variable {prog : Program} {w : World} {M : Model} {A : Around} {E : Value → Shared → Prop} {s : Shared}
theorem collect_tuple {l : Addr} {vs : List Value} {Q : List Value → Shared → Prop} (hl : s.heap.IsTuple l vs.toArray)
    (h : Q vs { s with heap := (s.heap.push (seqObj "list" #[] 0)).update s.heap.objs.size (Obj.mapSeq (· ++ vs.toArray)) }) (hsz : vs.length ≤ sizeLine := by size_fits) :
    wpAny (model prog w) A (collect (.ref l)) Q E s := by
  obtain ⟨o, ho, hc, n, hd⟩ := id hl
  unfold collect
  refine wpAny_bind (wpAny_runValue (codeAny_builtin entry_proto_collect' ?_))
  show wpAny _ _ (do again (.builtin "list.__iadd__" ⟨[← newList [], .ref l], []⟩)) _ _ s
  refine wpAny_bind (wpAny_newList (wpAny_pure ⟨Code.quiet_builtin _ (by decide +kernel), codeAny_builtin entry_list_iadd' ?_⟩))
  show wpAny _ _ (Builtin.List.listExtendWith (.ref s.heap.objs.size) (.ref l) (.ref s.heap.objs.size)) _ _ { s with heap := s.heap.push (seqObj "list" #[] 0) }
  unfold Builtin.List.listExtendWith
  have ho' : (s.heap.push (seqObj "list" #[] 0)).get? l = some o := Heap.get?_push_of_some _ ho
  refine wpAny_bind (wpAny_typeOf (T := "tuple") ⟨o, ho', hc⟩ ?_)
  have ht : (Value.type "tuple" == Value.type "tuple") = true := by rfl
  rw [if_pos (by rw [ht]; simp)]
  refine wpAny_bind (listItems_at ho' hd ?_)
  refine wpAny_bind (listItems_at (xs := #[]) (n := 0) (Heap.get?_push_size _ rfl) rfl ?_)
  rw [if_neg (by simp)]
  refine wpAny_bind (listUpdate_at (xs := #[]) (n := 0) (Heap.get?_push_size _ rfl) rfl ?_ (Nat.zero_le _) (by show (#[] ++ vs.toArray).size ≤ sizeLine + 1; simp only [Array.size_append, List.size_toArray, List.length_nil]; omega))
  refine wpAny_pure ?_
  show wpAny (model prog w) A (do
      let o ← load s.heap.objs.size
      match o.data with
      | .seq xs _ => pure xs.toList
      | _ => unsupported "internal:collect") Q E { s with heap := (s.heap.push (seqObj "list" #[] 0)).update s.heap.objs.size (Obj.mapSeq (· ++ vs.toArray)) }
  refine wpAny_bind (wpAny_load (get?_update_seq (Heap.get?_push_size _ rfl) _) ?_)
  show wpAny _ _ (pure ((#[] : Array Value) ++ vs.toArray).toList) Q E _
  rw [show ((#[] : Array Value) ++ vs.toArray).toList = vs by simp]
  exact wpAny_pure h
theorem sorted_intsT {l : Addr} {vs : List Value} {ns : List Int} {Q : Value → Shared → Prop} (hl : s.heap.IsTuple l vs.toArray) (hI : IntsAre vs ns) (h64 : vs.length < 64)
    (h : ∀ (out : Array Value) (ns' : List Int), IntsAre out.toList ns' → ns'.Perm ns → ns'.Pairwise (· ≤ ·) → Q (.ref (s.heap.objs.size + 1)) { s with heap := sortedAll s.heap vs out }) :
    wpAny (model prog w) A (call (.builtin "sorted") [.ref l]) Q E s := by
  refine Calls.call_function_entry kind_sorted plain_sorted entry_sorted (args_sorted1 _) ?_
  unfold Builtin.«sorted»
  refine wpAny_bind (m := checkCount "sorted" 1 1 _) (wpAny_pure ?_)
  refine wpAny_bind (collect_tuple hl ?_ (Nat.le_trans (Nat.le_of_lt h64) (by decide)))
  refine wpAny_bind (wpAny_newList ?_)
  have hsz : ((s.heap.push (seqObj "list" #[] 0)).update s.heap.objs.size (Obj.mapSeq (· ++ vs.toArray))).objs.size = s.heap.objs.size + 1 := by
    rw [Heap.size_update, size_push']
  have hoL : (((s.heap.push (seqObj "list" #[] 0)).update s.heap.objs.size (Obj.mapSeq (· ++ vs.toArray))).push (seqObj "list" vs.toArray 0)).get? (s.heap.objs.size + 1) = some (seqObj "list" vs.toArray 0) := by
    rw [← hsz]; exact Heap.get?_push_size _ rfl
  show wpAny _ _ _ _ _ { s with heap := ((s.heap.push (seqObj "list" #[] 0)).update s.heap.objs.size (Obj.mapSeq (· ++ vs.toArray))).push (seqObj "list" vs.toArray 0) }
  rw [hsz]
  refine wpAny_bind (wpAny_holding (wpAny_call_entry slot_list_sort ⟨_, hoL, rfl⟩ entry_list_sort (list_sort_tree hoL hI h64 fun out ns' a1 a2 a3 => ⟨_, rfl, ?_⟩) (args_list_sort _)))
  exact wpAny_pure ⟨_, rfl, h out ns' a1 a2 a3⟩
end
section
variable {X : Cx}
def rSortedT (K : PySem.W.Frag) : List V → Hp → VK → Prop := fun vs H Q => ∃ (a : Addr) (ns : List Int), vs = [V.ref a] ∧ SqT K H a (ns.map V.int) ∧ ns.length < 64 ∧ ∀ (ns' : List Int) (p : Addr), ns'.Perm ns → ns'.Pairwise (· ≤ ·) → H p = none → Q (.ref p) (upd H p (.lst (ns'.map V.int)))
theorem cr_sortedT : CallR X (.builtin "sorted") (rSortedT X.K) := by
  intro pins s σ H vs us Q I r h
  obtain ⟨a, ns, rfl, hs, h64, q⟩ := h
  obtain ⟨its, rv, hl, _⟩ := I.tuple hs
  rw [Vals.ref1 r]
  have hi := rv.ints
  refine sorted_intsT hl hi (by rw [hi.length]; exact h64) fun out ns' h1 h2 h3 => ?_
  obtain ⟨ep, he'⟩ := PyProof.Rows.sortedAll_at s.heap its out
  have hlen : (ns'.map V.int).length ≤ sizeLine := by rw [List.length_map, h2.length_eq]; exact small64 h64
  exact ⟨.ref _, upd H (s.heap.objs.size + 1) (.lst (ns'.map V.int)), I.laid (t' := s.toks) (fun _ _ => PyProof.Rows.sortedAll_old) (Nat.le_succ _) ⟨hlen, out.toList, ep, vals_of_ints h1, he'⟩, rfl, q ns' _ h2 h3 (I.hok.fresh (Nat.le_succ _))⟩
/-- t.index(n), the first place -/
theorem mt_tup_indexI : MtR X "tuple.index" (fun x xs H Q => ∃ p, ∃ ys : List Int, ∃ z j, x = .ref p ∧ xs = [.int z] ∧ SqT X.K H p (ys.map V.int) ∧ ys[j]? = some z ∧ (∀ m, m < j → ys[m]? ≠ some z) ∧ Q (.int (j : Nat)) H) := by
  intro pins s σ H x xs v us Q I rx rs h
  obtain ⟨p, ys, z, j, rfl, rfl, hq, hy, hno, q⟩ := h
  cases rx
  obtain ⟨u, rfl, t, rfl⟩ := vals1 rs
  obtain ⟨its, r, pl, hz⟩ := I.tuple hq
  obtain ⟨⟨cls, dd, dt, sl⟩, ho, hc, n, hd⟩ := pl
  simp only at hc hd
  subst hc
  subst hd
  have hl : its.toArray.size = ys.length := by rw [List.size_toArray, ← r.length, List.length_map]
  have hj : j < its.toArray.size := by rw [hl]; exact (List.getElem?_eq_some_iff.mp hy).1
  have at' : ∀ (m : Nat) (hm : m < its.toArray.size), ∃ y t', ys[m]? = some y ∧ its.toArray[m] = Value.int y t' := fun m hm => by
    have hm' : m < ys.length := by rw [← hl]; exact hm
    obtain ⟨w, hw, t', hw'⟩ := r.get (i := m) (x := .int ys[m]) (by simp [hm'])
    refine ⟨ys[m], t', List.getElem?_eq_getElem hm', ?_⟩
    have e := (List.getElem?_eq_some_iff.mp hw).2
    rw [← hw', ← e]
    simp
  refine call_meets PySem.F.slot_tuple_index ⟨_, ho, rfl⟩ PySem.F.entry_tuple_index (PySem.F.args_tuple_index_2 _ _) (TI.tuple_indexAt p its.toArray n dd sl (.int z t) (eqU (.int z)) j hj ?_ ?_)
    ⟨ho, fun w hw => mem_eqAt (x := .int z) ⟨t, rfl⟩ rfl r (by rw [List.all_map]; exact List.all_eq_true.mpr fun _ _ => rfl) w (by simpa using hw), ⟨.int (j : Nat), H, I.tok _, ⟨_, rfl⟩, q⟩⟩
  · obtain ⟨y, t', h1, h2⟩ := at' j hj
    rw [hy] at h1
    cases h1
    rw [h2]
    show (z == z) = true
    exact beq_self_eq_true z
  · intro m hm hmj
    obtain ⟨y, t', h1, h2⟩ := at' m hm
    rw [h2]
    show (y == z) = false
    exact beq_eq_false_iff_ne.mpr fun e => hno m hmj (e ▸ h1)
end
end Ur

set_option Elab.async false
set_option linter.all false
set_option maxRecDepth 100000
set_option maxHeartbeats 3200000
namespace K40
open PySem L2 Tx Tg Tm
def top (i : Nat) : Stmt := PySem.Challenge.pw_whatcounts_k40_whole_turns.main.body.getD i (.Pass ⟨0, 0, 0, 0⟩)
abbrev sInt : Stmt := top 6
abbrev sJoint : Stmt := top 8
abbrev sUndoneOf : Stmt := top 9
abbrev sCycles : Stmt := top 10
abbrev sOrderOf : Stmt := top 11
abbrev sTurnOf : Stmt := top 14
abbrev sIsTurn : Stmt := top 15
abbrev sJ : Stmt := top 16
abbrev sU : Stmt := top 17
abbrev sO : Stmt := top 18
abbrev sCheck : Stmt := top 19
abbrev sLedOn : Stmt := top 21
abbrev sLedBack : Stmt := top 22
abbrev sStays : Stmt := top 23
abbrev sTimes : Stmt := top 24
abbrev sCup : Stmt := top 25
abbrev sBit : Stmt := top 26
abbrev sDealt : Stmt := top 27
abbrev sAny : Stmt := top 28
abbrev sRight : Stmt := top 29
abbrev sLaw : Stmt := top 30
/-! ### values -/
inductive Val (H : Hp) : V → PyData → Prop
  | non : Val H .non .none
  | bl (b : Bool) : Val H (.bl b) (.bool b)
  | int (n : Int) : Val H (.int n) (.int n)
  | str (z : Str) : Val H (.str z) (.str z)
  | lst {a : Addr} (l : List Str) (h : H a = some (.lst (l.map V.str))) : Val H (.ref a) (.list (l.map PyData.str))
  | tup {a : Addr} (l : List Str) (h : H a = some (.tup (l.map V.str))) : Val H (.ref a) (.tuple (l.map PyData.str))
  | tupI {a : Addr} (l : List Int) (h : H a = some (.tup (l.map V.int))) : Val H (.ref a) (.tuple (l.map PyData.int))
  | dct {a : Addr} (kvs : List (Str × Int)) (h : H a = some (.dK (kvs.map fun p => (Sum.inr p.1, V.int p.2)))) : Val H (.ref a) (.dict (kvs.map fun p => (.str p.1, .int p.2)))
theorem Val.same {H H' : Hp} {v : V} {d : PyData} (s : Same H H') (h : Val H v d) : Val H' v d := by
  cases h with
  | non => exact .non
  | bl b => exact .bl b
  | int n => exact .int n
  | str z => exact .str z
  | lst l h => exact .lst l (s _ _ h)
  | tup l h => exact .tup l (s _ _ h)
  | tupI l h => exact .tupI l (s _ _ h)
  | dct l h => exact .dct l (s _ _ h)
def intTy : PyData → Bool
  | .int _ => true
  | .bool _ => true
  | _ => false
def strTy : PyData → Bool
  | .str _ => true
  | _ => false
def blTy : PyData → Bool
  | .bool _ => true
  | _ => false
theorem k_NoneType_int : kitB "NoneType" "int" = some false := by decide +kernel
theorem k_NoneType_str : kitB "NoneType" "str" = some false := by decide +kernel
theorem k_NoneType_bool : kitB "NoneType" "bool" = some false := by decide +kernel
theorem k_bool_int : kitB "bool" "int" = some true := by decide +kernel
theorem k_bool_str : kitB "bool" "str" = some false := by decide +kernel
theorem k_bool_bool : kitB "bool" "bool" = some true := by decide +kernel
theorem k_int_int : kitB "int" "int" = some true := by decide +kernel
theorem k_int_str : kitB "int" "str" = some false := by decide +kernel
theorem k_int_bool : kitB "int" "bool" = some false := by decide +kernel
theorem k_str_int : kitB "str" "int" = some false := by decide +kernel
theorem k_str_str : kitB "str" "str" = some true := by decide +kernel
theorem k_str_bool : kitB "str" "bool" = some false := by decide +kernel
theorem k_list_int : kitB "list" "int" = some false := by decide +kernel
theorem k_list_str : kitB "list" "str" = some false := by decide +kernel
theorem k_list_bool : kitB "list" "bool" = some false := by decide +kernel
theorem k_tuple_int : kitB "tuple" "int" = some false := by decide +kernel
theorem k_tuple_str : kitB "tuple" "str" = some false := by decide +kernel
theorem k_tuple_bool : kitB "tuple" "bool" = some false := by decide +kernel
theorem k_dict_int : kitB "dict" "int" = some false := by decide +kernel
theorem k_dict_str : kitB "dict" "str" = some false := by decide +kernel
theorem k_dict_bool : kitB "dict" "bool" = some false := by decide +kernel
theorem Val.ty {K : PySem.W.Frag} {H : Hp} {v : V} {d : PyData} (h : Val H v d) : ∃ t, TyX K H v t ∧ PySem.W.kitOne K t (.type "int") = some (intTy d) ∧ PySem.W.kitOne K t (.type "str") = some (strTy d) ∧ PySem.W.kitOne K t (.type "bool") = some (blTy d) := by
  cases h with
  | non => exact ⟨_, .base .non, kit_ty k_NoneType_int, kit_ty k_NoneType_str, kit_ty k_NoneType_bool⟩
  | bl b => exact ⟨_, .base (.bl b), kit_ty k_bool_int, kit_ty k_bool_str, kit_ty k_bool_bool⟩
  | int n => exact ⟨_, .base (.int n), kit_ty k_int_int, kit_ty k_int_str, kit_ty k_int_bool⟩
  | str z => exact ⟨_, .base (.str z), kit_ty k_str_int, kit_ty k_str_str, kit_ty k_str_bool⟩
  | lst l h => exact ⟨_, .base (.lst h), kit_ty k_list_int, kit_ty k_list_str, kit_ty k_list_bool⟩
  | tup l h => exact ⟨_, .base (.tup h), kit_ty k_tuple_int, kit_ty k_tuple_str, kit_ty k_tuple_bool⟩
  | tupI l h => exact ⟨_, .base (.tup h), kit_ty k_tuple_int, kit_ty k_tuple_str, kit_ty k_tuple_bool⟩
  | dct l h => exact ⟨_, .base (.dK h), kit_ty k_dict_int, kit_ty k_dict_str, kit_ty k_dict_bool⟩

/-- what the walk asks of the module's names -/
structure Txt (K : PySem.W.Frag) (mg : Str → Option Value) : Prop where
  isi : mg "isinstance" = none
  int : mg "int" = none
  bool : mg "bool" = none
  abs : mg "abs" = none
  len : mg "len" = none
  list : mg "list" = none
  sorted : mg "sorted" = none
  repr : mg "repr" = none
  range : mg "range" = none
  max : mg "max" = none
  min : mg "min" = none
  all : mg "all" = none
  tuple : mg "tuple" = none
  enum : mg "enumerate" = none
  long : ∃ t, mg "LEAST_TOO_LONG" = some (.int (10 ^ 200) t)
  mPts : ∃ t, mg "MAX_POINTS" = some (.int 60 t)
  lcm : mg "lcm" = some (.builtin "math.lcm")
section
variable {P : Program} {w : World} {K : PySem.W.Frag} {mg : Str → Option Value} {base : Heap}
def spInt : Sp := fun vs H Q _ => ∃ (v : V) (d : PyData), vs = [v] ∧ Val H v d ∧ Q (.bl (isInt d)) H
theorem scInt : FnScope ["value"] ["value"] (defScope sInt) := ⟨rfl, rfl, rfl, by decide +kernel, rfl, by decide +kernel, by decide +kernel⟩
theorem isInt_abs (n : Int) : decide ((if n < 0 then -n else n) < 10 ^ 200) = isInt (.int n) := by
  show _ = decide (n.natAbs < 10 ^ 200)
  have e : ((10 ^ 200 : Nat) : Int) = 10 ^ 200 := by norm_cast
  rw [← e]
  generalize (10 ^ 200 : Nat) = M
  refine decide_eq_decide.mpr ?_
  split <;> omega
theorem ok_int {f : Addr} {fd : FuncData} (F : Fun K "is_integer" "is_integer" sInt f fd) (T : Txt K mg) : FnOk P w K mg base CX0 1 f fd ["value"] spInt := by
  refine F.ok scInt (fun vs H Q E h => ?_) (fun cdv A outer s H vs Q E hr h => ?_)
  · obtain ⟨v, d, rfl, _⟩ := h
    rfl
  · obtain ⟨v, d, rfl, hv, q⟩ := h
    obtain ⟨tl, hl⟩ := T.long
    refine ⟨_, pss_one (ps_ret (pe_and (pe_callB call_isi (by rfl) T.isi (by decide +kernel) (pa_cons (pv 0) (pa_cons (pe_bltn (v := .ty "int") (by rfl) T.int (by decide +kernel) rfl) pa_nil)))
      (pe_and (pe_not (pe_callB call_isi (by rfl) T.isi (by decide +kernel) (pa_cons (pv 0) (pa_cons (pe_bltn (v := .ty "bool") (by rfl) T.bool (by decide +kernel) rfl) pa_nil))))
      (pe_one (pe_cmpR op_lt (pe_callB call_abs (by rfl) T.abs (by decide +kernel) (pa_cons (pv 0) pa_nil)) (pe_glob (v := .int (10 ^ 200)) rfl hl ⟨_, rfl⟩) (nomark _)))))), ?_⟩
    obtain ⟨t, ty, k1, _, k3⟩ := Val.ty (K := K) hv
    refine ⟨_, rfl, _, _, _, _, _, rfl, .ty "int", ty, k1, intTy d, rfl, ?_⟩
    cases hv with
    | int n =>
      refine iteT ⟨_, rfl, _, _, _, _, _, rfl, .ty "bool", ty, k3, _, rfl, _, rfl, iteT ?_⟩
      refine ⟨_, rfl, n, rfl, _, _, rfl, rfl, ?_⟩
      show Q (.bl (decide ((if n < 0 then -n else n) < 10 ^ 200))) H
      rw [isInt_abs]
      exact q
    | bl b => exact iteT ⟨_, rfl, _, _, _, _, _, rfl, .ty "bool", ty, k3, _, rfl, _, rfl, iteF q⟩
    | _ => exact iteF q

end
/-- a def of the text, found under its name -/
structure Df (K : PySem.W.Frag) (mg : Str → Option Value) (x : Str) (st : Stmt) (ps : List Str) (f : Addr) (fd : FuncData) : Prop where
  F : Fun K x x st f fd
  m : mg x = some (.ref f)
  b : Binds K fd ps []

theorem same_upd {H : Hp} {p : Addr} {o : HO} (h : H p = none) : Same H (upd H p o) := fun b u e => by
  rw [upd_ne (ne_of_none e h)]
  exact e
/-- a drawer: three ints -/
def Cup (H : Hp) (c : Addr) : Prop := ∃ a0 a1 a2 : Int, H c = some (.lst [.int a0, .int a1, .int a2])
/-- all but what stands at c stays -/
def But (c : Addr) (H H' : Hp) : Prop := ∀ b o, b ≠ c → H b = some o → H' b = some o
theorem But.refl (c : Addr) (H : Hp) : But c H H := fun _ _ _ e => e
theorem But.trans {c : Addr} {H H1 H2 : Hp} (a : But c H H1) (b : But c H1 H2) : But c H H2 := fun x o n e => b x o n (a x o n e)
theorem But.of {c : Addr} {H H' : Hp} (s : Same H H') : But c H H' := fun b o _ e => s b o e
theorem But.put {c : Addr} {H : Hp} {o : HO} : But c H (upd H c o) := fun b u n e => by rw [upd_ne n]; exact e

section
variable {P : Program} {w : World} {K : PySem.W.Frag} {mg : Str → Option Value} {base : Heap}
def spCup (K : PySem.W.Frag) : Sp := fun vs H Q _ => ∃ (a : Addr) (ns : List Int) (k : Nat), vs = [.ref a, .int k] ∧ SqL K H a (ns.map V.int) ∧ ns.length ≤ 63 ∧ k ≤ 100 ∧ ∀ p H', H p = none → Same H H' → Cup H' p → Q (.ref p) H'
theorem scCup : FnScope ["_law_script", "_law_at", "_law_cell", "_law_great", "_law_blend"] ["_law_script", "_law_at"] (defScope sCup) := ⟨rfl, rfl, rfl, by decide +kernel, rfl, by decide +kernel, by decide +kernel⟩
theorem ok_cup {f : Addr} {fd : FuncData} (F : Fun K "_law_cup" "_law_cup" sCup f fd) (T : Txt K mg) : FnOk P w K mg base CX0 1 f fd ["_law_script", "_law_at"] (spCup K) := by
  refine F.ok scCup (fun vs H Q E h => ?_) (fun cdv A outer s H vs Q E hr h => ?_)
  · obtain ⟨a, ns, k, rfl, _⟩ := h
    rfl
  · obtain ⟨a, ns, k, rfl, hS, hlen, hk, q⟩ := h
    refine ⟨_, pss_cons (ps_set (i := 2) scCup.nd rfl (Or.inl rfl) (pe_ifExp (pt_cmpR op_lt (pv 1) (pe_callB call_len (by rfl) T.len PySem.boot_len (pa_cons (pv 0) pa_nil)) (nomark _))
        (pe_ix ix_list (pv 0) (pv 1) (fun _ _ => rfl)) (pe_op op_add (pe_op op_mul pe_int (pv 1)) pe_int)))
      (pss_cons (ps_set (i := 3) scCup.nd rfl (Or.inl rfl) (pe_op op_modN (pe_callTy call_int1 (by rfl) T.int (by decide +kernel) (pa_cons (pe_callB call_abs (by rfl) T.abs (by decide +kernel) (pa_cons (pv 2) pa_nil)) pa_nil))
        (pe_op op_powW (pe_op op_pow pe_int pe_int) pe_int)))
      (pss_cons (ps_set (i := 4) scCup.nd rfl (Or.inl rfl) (pe_op op_add (pe_op op_add (pe_op op_add
          (pe_op op_mul (pe_op op_modN (pe_callTy call_int1 (by rfl) T.int (by decide +kernel) (pa_cons (pv 3) pa_nil)) pe_int) pe_int) (pe_op op_mul pe_int (pv 1)))
          (pe_op op_mul pe_int (pe_callTy call_int1 (by rfl) T.int (by decide +kernel) (pa_cons (pe_cmpR op_lt (pv 2) pe_int (nomark _)) pa_nil)))) pe_int))
      (pss_one (ps_ret (pe_lst (pa_cons (pe_callB (call_max2 rfl) (by rfl) T.max (by decide +kernel) (pa_cons pe_int (pa_cons (pe_op op_sub (pv 3) (pe_op op_pow pe_int pe_int)) pa_nil)))
        (pa_cons (pe_op op_modN (pe_callTy call_int1 (by rfl) T.int (by decide +kernel) (pa_cons (pv 4) pa_nil)) pe_int) (pa_cons pe_int pa_nil)))))))), ?_⟩
    refine ⟨_, rfl, _, rfl, _, ns.length, rfl, .inl ⟨_, hS, by rw [List.length_map]⟩, _, _, rfl, rfl, _, rfl, ?_⟩
    refine ite2 (fun hc => ?_) (fun _ => ?_)
    · have hk2 : k < ns.length := by
        have := of_decide_eq_true hc
        omega
      refine ⟨_, rfl, _, rfl, a, _, _, .int ns[k], rfl, rfl, hS, atI_nat (by rw [List.getElem?_map, List.getElem?_eq_getElem hk2]; rfl), ?_⟩
      refine ⟨_, rfl, _, rfl, .inl ⟨_, rfl, _, _, rfl, rfl, ⟨by decide, by decide, by decide⟩, _, _, rfl, rfl, ⟨by decide, by decide +kernel⟩, _, _, rfl, rfl, (show (((10 : Int) ^ Int.toNat 61) ^ Int.toNat 11) ≠ 0 by decide +kernel), ?_⟩⟩
      refine ⟨_, rfl, .inl ⟨_, rfl, _, _, rfl, rfl, (show (2147483179 : Int) ≠ 0 by decide), _, _, rfl, rfl, .inr ⟨by decide, by decide⟩, _, rfl, _, _, rfl, rfl, .inl ⟨by decide, by decide⟩, _, _, rfl, rfl, _, rfl, _, _, rfl, rfl,
        .inr ⟨_, rfl, _, _, rfl, rfl, .inl ⟨by decide, by decide⟩, _, _, rfl, rfl, _, _, rfl, rfl, ?_⟩⟩⟩
      refine ⟨_, rfl, _, _, rfl, rfl, ⟨by decide, by decide, by decide⟩, _, _, rfl, rfl, _, _, rfl, _, rfl, .inl ⟨_, rfl, _, _, rfl, rfl, (show (2305843009213693907 : Int) ≠ 0 by decide), by show 3 ≤ sizeLine; decide, fun p hp => ?_⟩⟩
      exact q p _ hp (same_upd hp) ⟨_, _, _, upd_same⟩
    · refine ⟨_, rfl, _, _, rfl, rfl, .inl ⟨by decide, by decide⟩, _, _, rfl, rfl, ?_⟩
      refine ⟨_, rfl, _, rfl, .inl ⟨_, rfl, _, _, rfl, rfl, ⟨by decide, by decide, by decide⟩, _, _, rfl, rfl, ⟨by decide, by decide +kernel⟩, _, _, rfl, rfl, (show (((10 : Int) ^ Int.toNat 61) ^ Int.toNat 11) ≠ 0 by decide +kernel), ?_⟩⟩
      refine ⟨_, rfl, .inl ⟨_, rfl, _, _, rfl, rfl, (show (2147483179 : Int) ≠ 0 by decide), _, _, rfl, rfl, .inr ⟨by decide, by decide⟩, _, rfl, _, _, rfl, rfl, .inl ⟨by decide, by decide⟩, _, _, rfl, rfl, _, rfl, _, _, rfl, rfl,
        .inr ⟨_, rfl, _, _, rfl, rfl, .inl ⟨by decide, by decide⟩, _, _, rfl, rfl, _, _, rfl, rfl, ?_⟩⟩⟩
      refine ⟨_, rfl, _, _, rfl, rfl, ⟨by decide, by decide, by decide⟩, _, _, rfl, rfl, _, _, rfl, _, rfl, .inl ⟨_, rfl, _, _, rfl, rfl, (show (2305843009213693907 : Int) ≠ 0 by decide), by show 3 ≤ sizeLine; decide, fun p hp => ?_⟩⟩
      exact q p _ hp (same_upd hp) ⟨_, _, _, upd_same⟩

def spBit : Sp := fun vs H Q _ => ∃ (c : Addr) (m : Int), vs = [.ref c, .int m] ∧ Cup H c ∧ 0 < m ∧ m.natAbs < 2 ^ 9000 ∧ ∀ r H', 0 ≤ r → r < m → Cup H' c → But c H H' → Q (.int r) H'
theorem scBit : FnScope ["_law_cup_here", "_law_much", "_law_found", "_law_first", "_law_later"] ["_law_cup_here", "_law_much"] (defScope sBit) := ⟨rfl, rfl, rfl, by decide +kernel, rfl, by decide +kernel, by decide +kernel⟩
theorem ok_bit {f : Addr} {fd : FuncData} (F : Fun K "_law_bit" "_law_bit" sBit f fd) (T : Txt K mg) : FnOk P w K mg base CX0 1 f fd ["_law_cup_here", "_law_much"] spBit := by
  refine F.ok scBit (fun vs H Q E h => ?_) (fun cdv A outer s H vs Q E hr h => ?_)
  · obtain ⟨c, m, rfl, _⟩ := h
    rfl
  · obtain ⟨c, m, rfl, ⟨a0, a1, a2, hc⟩, hm, hm2, q⟩ := h
    refine ⟨_, pss_cons (ps_if (pt_cmpR op_gt (pe_ix ix_list (pv 0) pe_int (fun _ _ => rfl)) pe_int (nomark _))
        (pss_cons (ps_set (i := 2) scBit.nd rfl (Or.inl rfl) (pe_op op_modN (pe_callTy call_int1 (by rfl) T.int (by decide +kernel) (pa_cons (pe_ix ix_list (pv 0) pe_int (fun _ _ => rfl)) pa_nil)) (pv 1)))
        (pss_cons (ps_asg (pe_op op_fdivW (pe_ix ix_list (pv 0) pe_int (fun _ _ => rfl)) (pv 1)) (pg_sub (pv 0) pe_int set_list))
        (pss_one (ps_ret (pv 2))))) pss_nil)
      (pss_cons (ps_asg (pe_op op_add (pe_ix ix_list (pv 0) pe_int (fun _ _ => rfl)) pe_int) (pg_sub (pv 0) pe_int set_list))
      (pss_cons (ps_set (i := 3) scBit.nd rfl (Or.inl rfl) (pe_op op_modN (pe_callTy call_int1 (by rfl) T.int (by decide +kernel) (pa_cons (pe_op op_add (pe_ix ix_list (pv 0) pe_int (fun _ _ => rfl))
          (pe_op op_mul pe_int (pe_ix ix_list (pv 0) pe_int (fun _ _ => rfl)))) pa_nil)) pe_int))
      (pss_cons (ps_set (i := 4) scBit.nd rfl (Or.inl rfl) (pe_op op_add (pe_op op_mul (pe_op op_modN (pe_callTy call_int1 (by rfl) T.int (by decide +kernel) (pa_cons (pe_op op_mul (pv 3) (pv 3)) pa_nil)) pe_int) (pv 3))
          (pe_op op_mul pe_int (pe_ix ix_list (pv 0) pe_int (fun _ _ => rfl)))))
      (pss_one (ps_ret (pe_op op_modN (pe_callTy call_int1 (by rfl) T.int (by decide +kernel) (pa_cons (pe_op op_fdivN (pe_op op_modN (pe_callTy call_int1 (by rfl) T.int (by decide +kernel) (pa_cons (pv 4) pa_nil)) pe_int) pe_int) pa_nil)) (pv 1))))))), ?_⟩
    have at0 : ∀ {x y z : V}, atI [x, y, z] (0 : Int) = some x := rfl
    have at1 : ∀ {x y z : V}, atI [x, y, z] (1 : Int) = some y := rfl
    have at2 : ∀ {x y z : V}, atI [x, y, z] (2 : Int) = some z := rfl
    have rest : ∀ i : Int, 0 ≤ i.fmod m ∧ i.fmod m < m := fun i => by
      rw [Int.fmod_eq_emod_of_nonneg i (Int.le_of_lt hm)]
      exact ⟨Int.emod_nonneg i (Int.ne_of_gt hm), Int.emod_lt_of_pos i hm⟩
    refine ⟨_, rfl, c, _, _, _, rfl, rfl, SqL.of hc, at0, _, _, rfl, rfl, _, rfl, ?_⟩
    refine ite2 (fun _ => ?_) (fun _ => ?_)
    · refine ⟨_, rfl, c, _, _, _, rfl, rfl, SqL.of hc, at0, .inl ⟨_, rfl, _, rfl, _, _, rfl, rfl, (Int.ne_of_gt hm), ?_⟩⟩
      refine ⟨_, rfl, c, _, _, _, rfl, rfl, SqL.of hc, at0, _, rfl, _, _, rfl, rfl, wide_div hm hm2 (by decide) (by decide), ?_⟩
      refine ⟨_, rfl, c, _, _, 0, rfl, rfl, hc, rfl, ?_⟩
      exact ⟨_, rfl, q _ _ (rest _).1 (rest _).2 ⟨_, _, _, upd_same⟩ But.put⟩
    · refine ⟨_, rfl, c, _, _, _, rfl, rfl, SqL.of hc, at2, _, _, rfl, rfl, _, rfl, c, _, _, 2, rfl, rfl, hc, rfl, ?_⟩
      have hc2 : (upd H c (.lst ([.int a0, .int a1, .int a2].set 2 (.int (a2 + 1))))) c = some (.lst [.int a0, .int a1, .int (a2 + 1)]) := upd_same
      refine ⟨_, rfl, c, _, _, _, rfl, rfl, SqL.of hc2, at1, _, rfl, c, _, _, _, rfl, rfl, SqL.of hc2, at2, _, _, rfl, rfl, .inl ⟨by decide, by decide⟩, _, _, rfl, rfl, .inl ⟨_, rfl, _, _, rfl, rfl, (show (2305843009213693951 : Int) ≠ 0 by decide), ?_⟩⟩
      have f1 := Int.emod_nonneg (a1 + 1000541 * (a2 + 1)) (b := 2305843009213693951) (by decide)
      have f2 := Int.emod_lt_of_pos (a1 + 1000541 * (a2 + 1)) (b := 2305843009213693951) (by decide)
      rw [← Int.fmod_eq_emod_of_nonneg (a1 + 1000541 * (a2 + 1)) (b := 2305843009213693951) (by decide)] at f1 f2
      have f3 : -(2 ^ 64 : Int) < Int.fmod (a1 + 1000541 * (a2 + 1)) 2305843009213693951 ∧ Int.fmod (a1 + 1000541 * (a2 + 1)) 2305843009213693951 < 2 ^ 64 :=
        ⟨Int.lt_of_lt_of_le (by decide) f1, Int.lt_trans f2 (by decide)⟩
      refine ⟨_, rfl, _, rfl, _, _, rfl, rfl, .inl f3, .inl ⟨_, rfl, _, _, rfl, rfl, (show (2305843009213693921 : Int) ≠ 0 by decide), _, rfl, _, _, rfl, rfl, .inr f3, _, rfl, c, _, _, _, rfl, rfl, SqL.of hc2, at2,
        _, _, rfl, rfl, .inl ⟨by decide, by decide⟩, _, _, rfl, rfl, ?_⟩⟩
      refine ⟨_, rfl, .inl ⟨_, rfl, _, _, rfl, rfl, (show (2305843009213693907 : Int) ≠ 0 by decide), _, _, rfl, rfl, (show (16384 : Int) ≠ 0 ∧ (16384 : Int).natAbs < 1073741824 by decide), .inl ⟨_, rfl, _, rfl, _, _, rfl, rfl, (Int.ne_of_gt hm), ?_⟩⟩⟩
      exact q _ _ (rest _).1 (rest _).2 ⟨_, _, _, hc2⟩ But.put
end
theorem Cup.same {H H' : Hp} {c : Addr} (s : Same H H') (h : Cup H c) : Cup H' c := let ⟨a, b, d, e⟩ := h; ⟨a, b, d, s _ _ e⟩
theorem Cup.ne {H : Hp} {c p : Addr} (h : Cup H c) (n : H p = none) : p ≠ c := by
  obtain ⟨a, b, d, e⟩ := h
  exact (ne_of_none e n).symm
end K40

set_option Elab.async false
set_option linter.all false
set_option maxRecDepth 100000
set_option maxHeartbeats 3200000
namespace K40
open PySem L2 Tx Tg Tm
/-! ### turns on the heap -/
abbrev nats (l : List Nat) : List V := l.map fun (p : Nat) => V.int (p : Int)
theorem sqt_same {K : PySem.W.Frag} {H H' : Hp} {a : Addr} {xs : List V} (s : Same H H') (h : SqT K H a xs) : SqT K H' a xs := by
  rcases h with h | h
  · rcases h with h | ⟨o, h⟩
    · exact .inl (.inl (s _ _ h))
    · exact .inl (.inr ⟨o, s _ _ h⟩)
  · exact .inr h
theorem nats_at {l : List Nat} {i : Nat} (h : i < l.length) : (nats l)[i]? = some (.int (l[i] : Int)) := by
  rw [List.getElem?_map, List.getElem?_eq_getElem h]
  rfl
theorem nats_to {l : List Nat} {p : Nat} (h : p < l.length) : atI (nats l) (p : Int) = some (.int (Pm.to l p : Int)) := by
  rw [Pm.to_get h]
  exact atI_nat (nats_at h)
theorem same_put {H H' : Hp} {D : Addr} {o : HO} (s : Same H H') (n : H D = none) : Same H (upd H' D o) := fun b u e => by
  rw [upd_ne (ne_of_none e n)]
  exact s b u e
section
variable {P : Program} {w : World} {K : PySem.W.Frag} {mg : Str → Option Value} {base : Heap}
def spJ2 (K : PySem.W.Frag) : Sp := fun vs H Q _ => ∃ (a b : Addr) (t u : List Nat), vs = [.ref a, .ref b] ∧ SqT K H a (nats t) ∧ SqT K H b (nats u) ∧ t.length ≤ 100 ∧ (∀ p ∈ t, p < u.length) ∧ ∀ p H', Same H H' → SqT K H' p (nats (Pm.joint t u)) → Q (.ref p) H'
theorem scJoint : FnScope ["one", "other", "point"] ["one", "other"] (defScope sJoint) := ⟨rfl, rfl, rfl, by decide +kernel, rfl, by decide +kernel, by decide +kernel⟩
/-- what both comprehensions do -/
theorem lc_joint {H : Hp} {a b D : Addr} {t u : List Nat} (ha : SqT K H a (nats t)) (hb : SqT K H b (nats u)) (hl : t.length ≤ 100) (hlt : ∀ p ∈ t, p < u.length) (hD : H D = none) {Qd : Hp → Prop}
    (q : ∀ H', Same H H' → H' D = some (.lst (nats (Pm.joint t u))) → Qd H') :
    ∃ W : Nat → Nat → Hp → Prop, (∃ m, W 0 m (upd H D (.lst []))) ∧ ∀ i m H, W i m H →
      ((Itt K a).stop i H ∧ Qd H) ∨ ((Itt K a).go i H ∧ ∃ Nx : Hp → Prop, (∀ H', Nx H' → ∃ m', m' < m ∧ W (i + 1) m' H') ∧ ∀ x H', (Itt K a).yld i H x H' → gName 2 x (wipe [some (.ref a), some (.ref b), none] [2]) H' fun σ2 H2 => wipe σ2 [2] = wipe [some (.ref a), some (.ref b), none] [2] ∧ tYes σ2 H2 fun b H3 =>
        if b = true then (tOp (rIxT K) (tVar 1) (tVar 2)) σ2 H3 fun y H4 => ∃ acc, H4 D = some (.lst acc) ∧ acc.length < sizeLine ∧ Nx (upd H4 D (.lst (acc ++ [y]))) else Nx H3) := by
  refine lc_tup (xs := nats t) (fun i H3 => Same H H3 ∧ H3 D = some (.lst (nats (Pm.joint (t.take i) u)))) ⟨same_upd hD, upd_same⟩ (fun i H2 _ z => sqt_same z.1 ha) ?_ ?_
  · rintro i x H2 hx ⟨s2, e2⟩
    have hi := (List.getElem?_eq_some_iff.mp hx).1
    have hi' : i < t.length := by rw [List.length_map] at hi; exact hi
    rw [nats_at hi'] at hx
    cases hx
    have hp := hlt t[i] (List.getElem_mem hi')
    refine ⟨rfl, iteT (B := False) ?_⟩
    refine ⟨_, rfl, _, rfl, b, nats u, (t[i] : Int), .int (Pm.to u t[i] : Int), rfl, rfl, sqt_same s2 hb, nats_to hp, ?_⟩
    refine ⟨_, e2, ?_, same_put s2 hD, ?_⟩
    · rw [List.length_map, Pm.joint_len, List.length_take]
      exact Nat.lt_of_le_of_lt (show _ ≤ 100 by omega) (by decide)
    · rw [upd_same, List.take_add_one, List.getElem?_eq_getElem hi']
      show some (HO.lst (nats (Pm.joint (t.take i) u) ++ [V.int (Pm.to u t[i] : Int)])) = some (HO.lst (nats ((t.take i ++ [t[i]]).map (Pm.to u))))
      rw [List.map_append]
      show _ = some (HO.lst (List.map _ (_ ++ _)))
      rw [List.map_append]
      rfl
  · rintro H2 ⟨s2, e2⟩
    rw [List.take_of_length_le (by rw [List.length_map]; exact Nat.le_refl _)] at e2
    exact q H2 s2 e2
theorem ok_joint {f : Addr} {fd : FuncData} (F : Fun K "joint_of" "joint_of" sJoint f fd) (T : Txt K mg) : FnOk P w K mg base CX0 1 f fd ["one", "other"] (spJ2 K) := by
  refine F.ok scJoint (fun vs H Q E h => ?_) (fun cdv A outer s H vs Q E hr h => ?_)
  · obtain ⟨a, b, t, u, rfl, _⟩ := h
    rfl
  · obtain ⟨a, b, t, u, rfl, ha, hb, hl, hlt, q⟩ := h
    refine ⟨_, pss_one (ps_ret (pe_callTy call_tuple_of (by rfl) T.tuple (by decide +kernel) (pa_cons (pe_lc (own := [("point", 2)]) (g := gName 2) (tt := tYes) (te := tOp (rIxT K) (tVar 1) (tVar 2)) rfl scJoint.nd (pi_tup (pv 0))
      (blkOk_by (own := [("point", 2)]) (N := ["one", "other", "point"]) (sc := defScope sJoint) (by decide +kernel))
      (fun _ _ _ _ _ => pg_name (i := 2) scJoint.nd rfl (Or.inl rfl)) (fun _ _ _ _ _ => pts_nil)
      (fun _ _ _ _ _ => pe_ix ix_tup (pv 1) (pv 2) (fun _ _ => rfl))) pa_nil))), ?_⟩
    refine ⟨_, rfl, a, rfl, ⟨_, ha⟩, fun D hD => ?_⟩
    refine lc_joint ha hb hl hlt hD fun H2 s2 e2 => ?_
    refine ⟨D, _, rfl, .inl ⟨SqL.of e2, fun pl npl => ?_⟩⟩
    exact q pl _ (s2.trans (same_upd npl)) (SqT.of upd_same)
theorem scLedOn : FnScope ["_law_turn", "_law_other", "_law_spot"] ["_law_turn", "_law_other"] (defScope sLedOn) := ⟨rfl, rfl, rfl, by decide +kernel, rfl, by decide +kernel, by decide +kernel⟩
theorem ok_ledon {f : Addr} {fd : FuncData} (F : Fun K "_law_led_on" "_law_led_on" sLedOn f fd) (T : Txt K mg) : FnOk P w K mg base CX0 1 f fd ["_law_turn", "_law_other"] (spJ2 K) := by
  refine F.ok scLedOn (fun vs H Q E h => ?_) (fun cdv A outer s H vs Q E hr h => ?_)
  · obtain ⟨a, b, t, u, rfl, _⟩ := h
    rfl
  · obtain ⟨a, b, t, u, rfl, ha, hb, hl, hlt, q⟩ := h
    refine ⟨_, pss_one (ps_ret (pe_callTy call_tuple_of (by rfl) T.tuple (by decide +kernel) (pa_cons (pe_lc (own := [("_law_spot", 2)]) (g := gName 2) (tt := tYes) (te := tOp (rIxT K) (tVar 1) (tVar 2)) rfl scLedOn.nd (pi_tup (pv 0))
      (blkOk_by (own := [("_law_spot", 2)]) (N := ["_law_turn", "_law_other", "_law_spot"]) (sc := defScope sLedOn) (by decide +kernel))
      (fun _ _ _ _ _ => pg_name (i := 2) scLedOn.nd rfl (Or.inl rfl)) (fun _ _ _ _ _ => pts_nil)
      (fun _ _ _ _ _ => pe_ix ix_tup (pv 1) (pv 2) (fun _ _ => rfl))) pa_nil))), ?_⟩
    refine ⟨_, rfl, a, rfl, ⟨_, ha⟩, fun D hD => ?_⟩
    refine lc_joint ha hb hl hlt hD fun H2 s2 e2 => ?_
    refine ⟨D, _, rfl, .inl ⟨SqL.of e2, fun pl npl => ?_⟩⟩
    exact q pl _ (s2.trans (same_upd npl)) (SqT.of upd_same)
/-! ### undone -/
theorem dc_enumT {K : PySem.W.Frag} {a : Addr} {xs : List V} {g : TG} {tt : TT} {tk tv : TE} {vs : List Nat} {σ : L2.St} {H1 : Hp} {D : Addr} {Qd : Hp → Prop} (Pv : Nat → Hp → Prop) (h0 : Pv 0 (upd H1 D (.dK []))) (hl : ∀ i H, i ≤ xs.length → Pv i H → SqT K H a xs)
    (hs : ∀ i x H T, xs[i]? = some x → H T = none → Pv i H → g (.ref T) (wipe σ vs) (upd H T (.tup [.int (i : Nat), x])) fun σ2 H2 => wipe σ2 vs = wipe σ vs ∧ tt σ2 H2 fun b H3 =>
      if b = true then tk σ2 H3 fun y H4 => tv σ2 H4 fun z H5 => ∃ kvs k, y = kV k ∧ H5 D = some (.dK kvs) ∧ kvs.length < sizeLine ∧ Pv (i + 1) (upd H5 D (.dK (putK kvs k z))) else Pv (i + 1) H3) (hd : ∀ H, Pv xs.length H → Qd H) :
    ∃ W : Nat → Nat → Hp → Prop, (∃ m, W 0 m (upd H1 D (.dK []))) ∧ ∀ i m H, W i m H →
      ((Ur.IteT K a).stop i H ∧ Qd H) ∨ ((Ur.IteT K a).go i H ∧ ∃ Nx : Hp → Prop, (∀ H', Nx H' → ∃ m', m' < m ∧ W (i + 1) m' H') ∧ ∀ x H', (Ur.IteT K a).yld i H x H' → g x (wipe σ vs) H' fun σ2 H2 => wipe σ2 vs = wipe σ vs ∧ tt σ2 H2 fun b H3 =>
        if b = true then tk σ2 H3 fun y H4 => tv σ2 H4 fun z H5 => ∃ kvs k, y = kV k ∧ H5 D = some (.dK kvs) ∧ kvs.length < sizeLine ∧ Nx (upd H5 D (.dK (putK kvs k z))) else Nx H3) := by
  refine ⟨fun i m H => m = xs.length - i ∧ i ≤ xs.length ∧ Pv i H, ⟨xs.length, by simp, Nat.zero_le _, h0⟩, ?_⟩
  rintro i m H ⟨rfl, hi, p⟩
  have q := hl i H hi p
  by_cases hlt : i < xs.length
  · refine .inr ⟨⟨xs, xs[i], q, by simp [hlt]⟩, Pv (i + 1), fun H' p' => ⟨xs.length - (i + 1), by omega, rfl, hlt, p'⟩, fun x H' y => ?_⟩
    obtain ⟨T, z, rfl, hT, rfl, hz⟩ := y
    exact hs i z _ T (hz xs q) hT p
  · have e : i = xs.length := by omega
    subst e
    exact .inl ⟨⟨xs, q, rfl⟩, hd H p⟩
def spJ1 (K : PySem.W.Frag) : Sp := fun vs H Q _ => ∃ (a : Addr) (t : List Nat) (n : Nat), vs = [.ref a] ∧ SqT K H a (nats t) ∧ Pm.Turn n t ∧ n ≤ 60 ∧ ∀ p H', Same H H' → SqT K H' p (nats (Pm.undone t)) → Q (.ref p) H'
theorem scUndoneOf : FnScope ["turn", "point", "led", "back"] ["turn"] (defScope sUndoneOf) := ⟨rfl, rfl, rfl, by decide +kernel, rfl, by decide +kernel, by decide +kernel⟩
theorem ok_undoneof {f : Addr} {fd : FuncData} (F : Fun K "undone_of" "undone_of" sUndoneOf f fd) (T : Txt K mg) : FnOk P w K mg base CX0 1 f fd ["turn"] (spJ1 K) := by
  refine F.ok scUndoneOf (fun vs H Q E h => ?_) (fun cdv A outer s H vs Q E hr h => ?_)
  · obtain ⟨a, t, n, rfl, _⟩ := h
    rfl
  · obtain ⟨a, t, n, rfl, ha, ht, hn, q⟩ := h
    have hu := hu_of hr
    refine ⟨_, pss_cons (ps_asg (pe_dc (own := [("point", 1), ("led", 2)]) (g := gTup K 2 (gCons (gName 1) (gCons (gName 2) gNil))) (tt := tYes) (tk := tVar 2) (tv := tVar 1) rfl scUndoneOf.nd (Ur.pi_enumT (by rfl) T.enum (pa_cons (pv 0) pa_nil))
        (blkOk_by (own := [("point", 1), ("led", 2)]) (N := ["turn", "point", "led", "back"]) (sc := defScope sUndoneOf) (by decide +kernel))
        (fun _ _ _ _ _ => pg_tup rfl (pgs_cons (pg_name (i := 1) scUndoneOf.nd rfl (Or.inl rfl)) (pgs_cons (pg_name (i := 2) scUndoneOf.nd rfl (Or.inl rfl)) pgs_nil))) (fun _ _ _ _ _ => pts_nil)
        (fun _ _ _ _ _ => pv 2) (fun _ _ _ _ _ => pv 1)) (pg_name (i := 3) scUndoneOf.nd rfl (Or.inr rfl)))
      (pss_one (ps_ret (pe_callTy call_tuple_of (by rfl) T.tuple (by decide +kernel) (pa_cons (pe_lc (own := [("point", 1)]) (g := gName 1) (tt := tYes) rfl scUndoneOf.nd (pi_range1 rfl T.range (pa_cons (pe_callB call_len_seq (by rfl) T.len PySem.boot_len (pa_cons (pv 0) pa_nil)) pa_nil))
        (blkOk_by (own := [("point", 1)]) (N := ["turn", "point", "led", "back"]) (sc := defScope sUndoneOf) (by decide +kernel))
        (fun _ _ _ _ _ => pg_name (i := 1) scUndoneOf.nd rfl (Or.inl rfl)) (fun _ _ _ _ _ => pts_nil)
        (fun _ _ _ _ _ => pe_dget hu (pv 3) (pv 1) (fun _ _ => rfl))) pa_nil)))), ?_⟩
    have hlen := ht.len
    refine ⟨_, rfl, a, nats t, rfl, ha, fun D hD => ?_⟩
    refine dc_enumT (xs := nats t) (fun i H2 => Same H H2 ∧ ∃ kvs : List (Key × V), H2 D = some (.dK kvs) ∧ kvs.length ≤ i ∧ ∀ (j : Nat) (hj2 : j < t.length), j < i → valV kvs (Sum.inl (t[j] : Int)) = some (.int (j : Int)))
      ⟨same_upd hD, [], upd_same, Nat.le_refl 0, fun j _ hj => absurd hj (Nat.not_lt_zero j)⟩ (fun i H2 _ z => sqt_same z.1 ha) ?_ ?_
    · rintro i x H2 T hx nT ⟨s2, kvs, e2, hk, hv⟩
      have hi := (List.getElem?_eq_some_iff.mp hx).1
      have hi' : i < t.length := by rw [List.length_map] at hi; exact hi
      rw [nats_at hi'] at hx
      cases hx
      have sT := same_upd (o := .tup [.int (i : Nat), .int (t[i] : Int)]) nT
      refine ⟨T, _, rfl, SqT.of upd_same, rfl, _, _, rfl, _, _, rfl, rfl, rfl, iteT (B := False) ?_⟩
      refine ⟨_, rfl, _, rfl, kvs, Sum.inl (t[i] : Int), rfl, sT _ _ e2, ?_, same_put (s2.trans sT) hD, _, upd_same, ?_, ?_⟩
      · exact Nat.lt_of_le_of_lt (show _ ≤ 60 by omega) (by decide)
      · have := length_putK kvs (Sum.inl (t[i] : Int)) (V.int (i : Int))
        omega
      · intro j hj2 hj
        rw [valV_put]
        by_cases hji : j = i
        · subst hji
          rw [if_pos rfl]
        · rw [if_neg fun e => hji (Pm.nodup_inj ht.nodup hj2 hi' (by injection e with e; omega))]
          exact hv j hj2 (by omega)
    · rintro H2 ⟨s2, kvs, e2, hk, hv⟩
      refine ⟨_, rfl, a, nats t, rfl, .inr (sqt_same s2 ha), ?_⟩
      have hnl : (nats t).length = t.length := List.length_map ..
      refine ⟨_, rfl, by omega, by omega, fun D2 hD2 => ?_⟩
      have en : ((nats t).length : Int).toNat = t.length := by omega
      rw [en]
      refine lc_range (lo := 0) (n := t.length) (fun i H3 => Same H2 H3 ∧ H3 D2 = some (.lst (nats ((Pm.undone t).take i)))) ⟨same_upd hD2, upd_same⟩ ?_ ?_
      · rintro i H3 hi ⟨s3, e3⟩
        have hin : i < n := by omega
        have hx : t.idxOf i < t.length := List.idxOf_lt_length_of_mem (ht.mem.mpr hin)
        have et : t[t.idxOf i] = i := List.getElem_idxOf _
        have hv2 := hv (t.idxOf i) hx (by rw [hnl]; exact hx)
        rw [et] at hv2
        have hg := DGet.k (k := (Sum.inl (i : Int) : Key)) (s3 _ _ e2)
        rw [hv2] at hg
        rw [Int.zero_add]
        refine ⟨rfl, iteT (B := False) ?_⟩
        refine ⟨_, rfl, _, rfl, D, _, rfl, hg, ?_⟩
        refine ⟨_, e3, ?_, same_put s3 hD2, ?_⟩
        · rw [List.length_map, List.length_take, Pm.undone_len]
          exact Nat.lt_of_le_of_lt (show _ ≤ 60 by omega) (by decide)
        · have hul : i < (Pm.undone t).length := by rw [Pm.undone_len]; exact hi
          have eu : (Pm.undone t)[i] = t.idxOf i := by
            have := Pm.to_undone ht hin
            rw [Pm.to_get hul] at this
            exact this
          rw [upd_same, List.take_add_one, List.getElem?_eq_getElem hul, eu]
          show _ = some (HO.lst (List.map _ (_ ++ _)))
          rw [List.map_append]
          rfl
      · rintro H3 ⟨s3, e3⟩
        rw [List.take_of_length_le (by rw [Pm.undone_len]; exact Nat.le_refl _)] at e3
        refine ⟨D2, _, rfl, .inl ⟨SqL.of e3, fun pl npl => ?_⟩⟩
        exact q pl _ ((s2.trans s3).trans (same_upd npl)) (SqT.of upd_same)
end
end K40

set_option Elab.async false
set_option linter.all false
set_option maxRecDepth 100000
set_option maxHeartbeats 3200000
namespace K40
open PySem L2 Tx Tg Tm
abbrev nCyc : List Str := ["turn", "cycles", "seen", "start", "cycle", "point"]
/-- the dict of the points seen -/
def Seen (kvs : List (Key × V)) (S : List Nat) : Prop := (∀ p : Nat, (valV kvs (Sum.inl (p : Int))).isSome = decide (p ∈ S)) ∧ kvs.length ≤ S.length
theorem Seen.put {kvs : List (Key × V)} {S : List Nat} (h : Seen kvs S) (p : Nat) (v : V) : Seen (putK kvs (Sum.inl (p : Int)) v) (S ++ [p]) := by
  refine ⟨fun q => ?_, ?_⟩
  · rw [valV_put]
    by_cases e : q = p
    · subst e
      rw [if_pos rfl]
      simp
    · rw [if_neg fun z => e (by injection z with z; omega), h.1 q]
      simp [e]
  · have := length_putK kvs (Sum.inl (p : Int)) v
    have h2 := h.2
    rw [List.length_append, List.length_singleton]
    omega
/-- lists of points, so many in each -/
def LensAt (H : Hp) (cs : List Addr) (M : List Nat) : Prop := PySem.W.EachIs (fun c m => ∃ L : List Nat, H c = some (.lst (nats L)) ∧ L.length = m) cs M
theorem LensAt.mono {H H' : Hp} {cs : List Addr} {M : List Nat} (h : LensAt H cs M) (k : ∀ c ∈ cs, ∀ xs, H c = some (.lst xs) → H' c = some (.lst xs)) : LensAt H' cs M := by
  unfold LensAt at *
  induction h with
  | nil => exact .nil
  | cons r t ih =>
    obtain ⟨L, e, hl⟩ := r
    exact .cons ⟨L, k _ List.mem_cons_self _ e, hl⟩ (ih fun c hc => k c (List.mem_cons_of_mem _ hc))
theorem each_snoc {α β : Type} {R : α → β → Prop} : ∀ {as : List α} {bs : List β} {a : α} {b : β}, PySem.W.EachIs R as bs → R a b → PySem.W.EachIs R (as ++ [a]) (bs ++ [b])
  | _, _, _, _, .nil, r => .cons r .nil
  | _, _, _, _, .cons r t, q => .cons r (each_snoc t q)
theorem free_none {H H' : Hp} {p : Addr} (s : Same H H') (n : H' p = none) : H p = none := by
  cases hh : H p with
  | none => rfl
  | some o =>
    have := s _ _ hh
    rw [n] at this
    cases this
section
variable {P : Program} {w : World} {K : PySem.W.Frag} {mg : Str → Option Value} {base : Heap}
def spCyc (K : PySem.W.Frag) : Sp := fun vs H Q _ => ∃ (a : Addr) (t : List Nat) (n : Nat), vs = [.ref a] ∧ SqT K H a (nats t) ∧ Pm.Turn n t ∧ n ≤ 60 ∧ ∀ p H' cs M, Same H H' → H' p = some (.lst (cs.map V.ref)) → LensAt H' cs M → Pm.Lens n t M → Q (.ref p) H'
theorem scCyc : FnScope nCyc ["turn"] (defScope sCycles) := ⟨rfl, rfl, rfl, by decide +kernel, rfl, by decide +kernel, by decide +kernel⟩
theorem ok_cycles {f : Addr} {fd : FuncData} (F : Fun K "cycles_of" "cycles_of" sCycles f fd) (T : Txt K mg) : FnOk P w K mg base CX0 1 f fd ["turn"] (spCyc K) := by
  refine F.ok scCyc (fun vs H Q E h => ?_) (fun cdv A outer s H vs Q E hr h => ?_)
  · obtain ⟨a, t, n, rfl, _⟩ := h
    rfl
  · obtain ⟨a, t, n, rfl, ha, ht, hn, q⟩ := h
    have hu := hu_of hr
    refine ⟨_, pss_cons (ps_set (i := 1) scCyc.nd rfl (Or.inl rfl) (pe_lst pa_nil))
      (pss_cons (ps_set (i := 2) scCyc.nd rfl (Or.inl rfl) pe_dnewK)
      (pss_cons (ps_for PassesOwn.never rfl (pi_range1 rfl T.range (pa_cons (pe_callB call_len_seq (by rfl) T.len PySem.boot_len (pa_cons (pv 0) pa_nil)) pa_nil)) (pg_name (i := 3) scCyc.nd rfl (Or.inl rfl))
        (pss_cons (ps_set (i := 4) scCyc.nd rfl (Or.inl rfl) (pe_lst pa_nil))
        (pss_cons (ps_set (i := 5) scCyc.nd rfl (Or.inl rfl) (pv 3))
        (pss_cons (ps_while PassesOwn.never (pt_cmp (pc_dnotin hu (pv 5) (pv 2)))
          (pss_cons (ps_dput hu (pv 2) (pv 5) pe_bl rfl)
          (pss_cons (ps_expr (pe_bm PySem.F.plainAttrs_list PySem.F.slot_list_append PySem.F.type_list_append mt_append (pv 4) (pa_cons (pv 5) pa_nil)))
          (pss_one (ps_set (i := 5) scCyc.nd rfl (Or.inl rfl) (pe_ix ix_tup (pv 0) (pv 5) (fun _ _ => rfl)))))))
        (pss_one (ps_if (pt_truth (pv 4) (by intro _; rfl)) (pss_one (ps_expr (pe_bm PySem.F.plainAttrs_list PySem.F.slot_list_append PySem.F.type_list_append mt_append (pv 1) (pa_cons (pv 4) pa_nil)))) pss_nil))))))
      (pss_one (ps_ret (pv 1))))), ?_⟩
    have hlen := ht.len
    have hnl : (nats t).length = t.length := List.length_map ..
    refine ⟨by decide, fun pc npc => fun pd npd => ?_⟩
    have s0 := same_upd (o := .lst []) npc
    have s00 := s0.trans (same_upd (o := .dK []) npd)
    have ncd : pc ≠ pd := fun e => by rw [e, ← e] at npd; rw [upd_same] at npd; cases npd
    have npd0 : H pd = none := by
      have := npd
      rw [upd_ne ncd.symm] at this
      exact this
    have e1 : (upd (upd H pc (.lst [])) pd (.dK [])) pc = some (.lst []) := by rw [upd_ne ncd, upd_same]
    have e2 : (upd (upd H pc (.lst [])) pd (.dK [])) pd = some (.dK []) := upd_same
    generalize upd (upd H pc (.lst [])) pd (.dK []) = H0 at s00 e1 e2 ⊢
    refine ⟨_, rfl, a, nats t, rfl, .inr (sqt_same s00 ha), ?_⟩
    refine ⟨_, rfl, by omega, by omega, ?_⟩
    have en : ((nats t).length : Int).toNat = n := by omega
    rw [en]
    refine for_range (n := n) (fun i σ H1 => ∃ (t3 t4 t5 : Option V) (cs : List Addr) (M S : List Nat) (kvs : List (Key × V)), σ = [some (.ref a), some (.ref pc), some (.ref pd), t3, t4, t5] ∧ Same H H1 ∧ H1 pc = some (.lst (cs.map V.ref)) ∧ H1 pd = some (.dK kvs) ∧ Seen kvs S ∧ LensAt H1 cs M ∧ (∀ c ∈ cs, c ≠ pc) ∧ Pm.Out n t i S M)
      ⟨none, none, none, [], [], [], [], rfl, s00, e1, e2, ⟨fun p => rfl, Nat.le_refl 0⟩, .nil, (fun c hc => by cases hc), Pm.out_zero⟩ ?_ ?_
    · rintro i σ H1 hi ⟨t3, t4, t5, cs, M, S, kvs, rfl, sH, ec, ed, hS, hM, hcs, hO⟩
      refine ⟨by decide, fun pk npk => ?_⟩
      have sk := same_upd (o := .lst []) npk
      have nkc : pk ≠ pc := (ne_of_none ec npk).symm
      have nkd : pk ≠ pd := (ne_of_none ed npk).symm
      refine ⟨_, rfl, ?_⟩
      rw [Int.zero_add]
      have hM1 := hM.mono (H' := upd H1 pk (.lst [])) fun c hc xs e => sk _ _ e
      have ncs : ∀ c ∈ cs, c ≠ pk := by
        intro c hc e
        subst e
        have : ∀ {cs : List Addr} {M : List Nat}, LensAt H1 cs M → ∀ c ∈ cs, ∃ xs, H1 c = some (.lst xs) := by
          intro cs M h
          unfold LensAt at h
          induction h with
          | nil => intro c hc; cases hc
          | cons r t ih =>
            intro c hc
            rcases List.mem_cons.mp hc with rfl | hc
            · obtain ⟨L, e, _⟩ := r
              exact ⟨_, e⟩
            · exact ih c hc
        obtain ⟨xs, e⟩ := this hM c hc
        rw [npk] at e
        cases e
      refine while_by (fun σ H2 => ∃ (j : Nat) (kvs : List (Key × V)), σ = [some (.ref a), some (.ref pc), some (.ref pd), some (.int (i : Int)), some (.ref pk), some (.int (Pm.it t j i : Int))] ∧ Same H H2 ∧ H2 pc = some (.lst (cs.map V.ref)) ∧ H2 pd = some (.dK kvs) ∧ Seen kvs (S ++ Pm.walk t i j) ∧ H2 pk = some (.lst (nats (Pm.walk t i j))) ∧ LensAt H2 cs M ∧ Pm.In S t i j)
        (fun σ H2 => match H2 pk with
          | some (.lst l) => n + 1 - l.length
          | _ => 0) ⟨0, kvs, rfl, sH.trans sk, sk _ _ ec, sk _ _ ed, by
            show Seen kvs (S ++ [])
            rw [List.append_nil]; exact hS, upd_same, hM1, Pm.in_zero S t i⟩ ?_ ?_
      · rintro σ H2 ⟨j, kvs2, rfl, s2, ec2, ed2, hS2, ek2, hM2, hI⟩
        have hpn := Pm.it_lt ht hi j
        refine ⟨_, rfl, _, rfl, pd, _, rfl, DGet.k (k := (Sum.inl (Pm.it t j i : Int) : Key)) ed2, _, rfl, ?_⟩
        rw [hS2.1]
        by_cases hin : Pm.it t j i ∈ S ++ Pm.walk t i j
        · rw [decide_eq_true hin]
          refine iteF ?_
          cases j with
          | zero =>
            refine ⟨_, rfl, false, .inl ⟨_, SqL.of ek2, rfl⟩, iteF ?_⟩
            have hS3 : Seen kvs2 (S ++ []) := hS2
            rw [List.append_nil] at hS3
            have hin2 : i ∈ S ++ [] := hin
            rw [List.append_nil] at hin2
            exact ⟨_, _, _, cs, M, S, kvs2, rfl, s2, ec2, ed2, hS3, hM2, hcs, Pm.out_same hO hin2⟩
          | succ j =>
            have hne : true = !((nats (Pm.walk t i (j + 1))).isEmpty) := by
              have : (nats (Pm.walk t i (j + 1))).length = j + 1 := by rw [List.length_map, Pm.walk_len]
              cases hx : nats (Pm.walk t i (j + 1)) with
              | nil => rw [hx] at this; cases this
              | cons _ _ => rfl
            refine ⟨_, rfl, true, .inl ⟨_, SqL.of ek2, hne⟩, iteT ?_⟩
            have hcl : cs.length = M.length := hM2.length
            have hml := hO.ln
            refine ⟨_, rfl, .inl ⟨rfl, _, SqL.of ec2⟩, _, rfl, pc, _, .ref pk, rfl, rfl, ec2, ?_, ?_⟩
            · rw [List.length_map]
              exact Nat.lt_of_le_of_lt (show _ ≤ 60 by omega) (by decide)
            · refine ⟨_, _, _, cs ++ [pk], M ++ [j + 1], S ++ Pm.walk t i (j + 1), kvs2, rfl, same_put s2 npc, ?_, ?_, hS2, ?_, ?_, Pm.out_succ ht hO hi hI hin⟩
              · rw [upd_same, List.map_append]
                rfl
              · rw [upd_ne ncd.symm]
                exact ed2
              · exact each_snoc (hM2.mono fun c hc xs e => by rw [upd_ne (hcs c hc)]; exact e) ⟨_, by rw [upd_ne nkc]; exact ek2, Pm.walk_len ..⟩
              · intro c hc
                rcases List.mem_append.mp hc with h' | h'
                · exact hcs c h'
                · rw [List.mem_singleton.mp h']
                  exact nkc
        · rw [decide_eq_false hin]
          refine iteT ?_
          have hjn := Pm.in_le ht hi hI
          have hsn := Pm.small_len hO.nd hO.lt
          have hkl := hS2.2
          rw [List.length_append, Pm.walk_len] at hkl
          refine ⟨_, rfl, _, rfl, pd, _, rfl, DPut.k (k := (Sum.inl (Pm.it t j i : Int) : Key)) ed2 (Nat.lt_of_le_of_lt (show _ ≤ 120 by omega) (by decide)), ?_⟩
          have ek3 : (upd H2 pd (.dK (putK kvs2 (Sum.inl (Pm.it t j i : Int) : Key) (.bl true)))) pk = some (.lst (nats (Pm.walk t i j))) := by
            rw [upd_ne nkd]
            exact ek2
          refine ⟨_, rfl, .inl ⟨rfl, _, SqL.of ek3⟩, _, rfl, pk, _, _, rfl, rfl, ek3, ?_, ?_⟩
          · rw [List.length_map, Pm.walk_len]
            exact Nat.lt_of_le_of_lt (show _ ≤ 60 by omega) (by decide)
          · have npk0 : H pk = none := free_none sH npk
            have sE := same_put (o := .lst (nats (Pm.walk t i j) ++ [.int (Pm.it t j i : Int)])) (same_put (o := .dK (putK kvs2 (Sum.inl (Pm.it t j i : Int) : Key) (.bl true))) s2 npd0) npk0
            refine ⟨_, rfl, _, rfl, a, nats t, _, .int (Pm.to t (Pm.it t j i) : Int), rfl, rfl, sqt_same sE ha, nats_to (by omega), ?_⟩
            refine ⟨⟨j + 1, putK kvs2 (Sum.inl (Pm.it t j i : Int) : Key) (.bl true), rfl, sE, ?_, ?_, ?_, ?_, ?_, Pm.in_succ hI hin⟩, ?_⟩
            · rw [upd_ne nkc.symm, upd_ne ncd]
              exact ec2
            · rw [upd_ne nkd.symm, upd_same]
            · have := hS2.put (Pm.it t j i) (.bl true)
              rw [List.append_assoc, ← Pm.walk_succ] at this
              exact this
            · rw [upd_same, Pm.walk_succ]
              show _ = some (HO.lst (List.map _ (_ ++ _)))
              rw [List.map_append]
              rfl
            · refine hM2.mono fun c hc xs e => ?_
              have hcd : c ≠ pd := fun z => by
                rw [z, ed2] at e
                cases e
              rw [upd_ne (ncs c hc), upd_ne hcd]
              exact e
            · show (match (upd (upd H2 pd _) pk (.lst (nats (Pm.walk t i j) ++ [.int (Pm.it t j i : Int)]))) pk with
                | some (.lst l) => n + 1 - l.length
                | _ => 0) < (match H2 pk with
                | some (.lst l) => n + 1 - l.length
                | _ => 0)
              rw [upd_same, ek2]
              show n + 1 - (nats (Pm.walk t i j) ++ [V.int (Pm.it t j i : Int)]).length < n + 1 - (nats (Pm.walk t i j)).length
              rw [List.length_append, List.length_map, Pm.walk_len, List.length_singleton]
              omega
      · rintro σ H Q Q' hQ ⟨v, e, v2, e2, a', o, ex, hg, c, ec, hq⟩
        exact ⟨v, e, v2, e2, a', o, ex, hg, c, ec, hQ _ _ hq⟩
    · rintro σ H1 ⟨t3, t4, t5, cs, M, S, kvs, rfl, sH, ec, ed, hS, hM, hcs, hO⟩
      exact ⟨_, rfl, q pc H1 cs M sH ec hM (Pm.out_end hO)⟩
end
end K40

set_option Elab.async false
set_option linter.all false
set_option maxRecDepth 100000
set_option maxHeartbeats 3200000
namespace K40
open PySem L2 Tx Tg Tm
/-! ### numbers as data -/
abbrev natsD (l : List Nat) : List PyData := l.map fun (p : Nat) => PyData.int (p : Int)
theorem nats_all (K : PySem.W.Frag) (H : Hp) : ∀ l : List Nat, DpAll K H (nats l) (natsD l)
  | [] => .nil
  | p :: l => .cons (.int _) (nats_all K H l)
theorem lay_nats : ∀ l : List Nat, PyData.canLayAll0 (natsD l) = true
  | [] => rfl
  | p :: l => by
    show (true && PyData.canLayAll0 (natsD l)) = true
    rw [lay_nats l]
    rfl
theorem deep_nats : ∀ l : List Nat, PyData.depthAll (natsD l) = 0
  | [] => rfl
  | p :: l => by
    show max 0 (PyData.depthAll (natsD l)) = 0
    rw [deep_nats l]
    rfl
theorem shaped_lst (l : List Nat) : SeqAt.shaped (.list (natsD l)) = true := by
  unfold SeqAt.shaped
  rw [Bool.and_eq_true]
  exact ⟨lay_nats l, decide_eq_true (by show PyData.depthAll (natsD l) + 1 ≤ 64; rw [deep_nats]; decide)⟩
theorem shaped_tup (l : List Nat) : SeqAt.shaped (.tuple (natsD l)) = true := by
  unfold SeqAt.shaped
  rw [Bool.and_eq_true]
  exact ⟨lay_nats l, decide_eq_true (by show PyData.depthAll (natsD l) + 1 ≤ 64; rw [deep_nats]; decide)⟩
theorem eqv_nats : ∀ l m : List Nat, PyData.eqvAll (natsD l) (natsD m) = decide (l = m)
  | [], [] => rfl
  | [], _ :: _ => rfl
  | _ :: _, [] => rfl
  | p :: l, q :: m => by
    show (((p : Int) == (q : Int)) && PyData.eqvAll (natsD l) (natsD m)) = _
    rw [eqv_nats l m, Bool.eq_iff_iff]
    simp only [Bool.and_eq_true, beq_iff_eq, decide_eq_true_eq, List.cons.injEq]
    constructor
    · rintro ⟨h1, h2⟩
      exact ⟨by omega, h2⟩
    · rintro ⟨rfl, h2⟩
      exact ⟨rfl, h2⟩
theorem rg_nats (n : Nat) : rgV 0 (n : Int) = nats (List.range n) := by
  unfold rgV
  have e : ((n : Int) - 0).toNat = n := by omega
  rw [e]
  refine List.map_congr_left fun i _ => ?_
  rw [Int.zero_add]
theorem sorted_is {n : Nat} {t : List Nat} (h : Pm.Turn n t) {ns : List Int} (hp : ns.Perm (t.map fun (p : Nat) => (p : Int))) (hs : ns.Pairwise (· ≤ ·)) : ns = (List.range n).map fun (p : Nat) => (p : Int) := by
  have h2 := hp.trans (h.map fun (p : Nat) => (p : Int))
  refine List.Perm.eq_of_pairwise (le := (· ≤ ·)) (fun a b _ _ h1 h2 => Int.le_antisymm h1 h2) hs ?_ h2
  rw [List.pairwise_map]
  exact List.pairwise_lt_range.imp fun h => by omega
theorem ty_tup {K : PySem.W.Frag} {H : Hp} {a : Addr} {xs : List V} (h : SqT K H a xs) : TyX K H (.ref a) (.type "tuple") := by
  rcases h with h | ⟨o, its, n, hk, hc, _⟩
  · rcases h with h | ⟨o, h⟩
    · exact .base (.tup h)
    · exact .fTuple h
  · exact .kTuple hk hc
theorem k_tuple_tuple : kitB "tuple" "tuple" = some true := by decide +kernel
theorem eq_lst (l : List Nat) : PyData.eqv (.list (natsD l)) (.list (natsD l)) = true := (eqv_nats l l).trans (decide_eq_true rfl)
theorem eq_tup (l m : List Nat) : PyData.eqv (.tuple (natsD l)) (.tuple (natsD m)) = decide (l = m) := eqv_nats l m
theorem small_isInt {p : Nat} (h : p ≤ 1000) : isInt (.int (p : Int)) = true := by
  rw [← isInt_abs]
  have : (1000 : Int) < 10 ^ 200 := by decide +kernel
  exact decide_eq_true (by split <;> omega)
section
variable {X : Cx}
def rLcm : List V → Hp → VK → Prop := fun vs H Q => ∃ a b : Int, vs = [.int a, .int b] ∧ a.natAbs < 2 ^ 64 ∧ b.natAbs < 2 ^ 64 ∧ Q (.int ((Nat.lcm a.natAbs b.natAbs : Nat) : Int)) H
theorem cr_lcm : CallR X (.builtin "math.lcm") rLcm := by
  intro pins s σ H vs us Q I r h
  obtain ⟨a, b, rfl, h1, h2, q⟩ := h
  obtain ⟨t, u, rfl⟩ := Vals.int2 r
  exact PySem.W.mc_lcm h1 h2 fun _ => ⟨.int _, H, I.tok _, ⟨_, rfl⟩, q⟩
end
section
variable {P : Program} {w : World} {K : PySem.W.Frag} {mg : Str → Option Value} {base : Heap}
def spOrd (K : PySem.W.Frag) : Sp := fun vs H Q _ => ∃ (a : Addr) (t : List Nat) (n : Nat), vs = [.ref a] ∧ SqT K H a (nats t) ∧ Pm.Turn n t ∧ 1 ≤ n ∧ n ≤ 9 ∧ ∀ (L : Nat) H', Same H H' → Pm.Ord n t L → L ≤ 2 ^ 40 → Q (.int (L : Int)) H'
theorem scOrd : FnScope ["turn", "order", "cycle"] ["turn"] (defScope sOrderOf) := ⟨rfl, rfl, rfl, by decide +kernel, rfl, by decide +kernel, by decide +kernel⟩
theorem lens_at {H : Hp} : ∀ {cs : List Addr} {M : List Nat}, LensAt H cs M → ∀ i (hi : i < cs.length), ∃ (L : List Nat) (m : Nat), M[i]? = some m ∧ H cs[i] = some (.lst (nats L)) ∧ L.length = m := by
  intro cs M h
  unfold LensAt at h
  induction h with
  | nil => intro i hi; cases hi
  | @cons c m cs M r t ih =>
    intro i hi
    cases i with
    | zero =>
      obtain ⟨L, e, hl⟩ := r
      exact ⟨L, m, rfl, e, hl⟩
    | succ i => exact ih i (Nat.lt_of_succ_lt_succ hi)
theorem ok_order {f fC : Addr} {fd fdC : FuncData} (F : Fun K "order_of" "order_of" sOrderOf f fd) (T : Txt K mg) (DC : Df K mg "cycles_of" sCycles ["turn"] fC fdC) : FnOk P w K mg base CX0 2 f fd ["turn"] (spOrd K) := by
  have G := ok_cycles (P := P) (w := w) (base := base) DC.F T
  refine F.ok scOrd (fun vs H Q E h => ?_) (fun cdv A outer s H vs Q E hr h => ?_)
  · obtain ⟨a, t, n, rfl, _⟩ := h
    rfl
  · obtain ⟨a, t, n, rfl, ha, ht, n1, n9, q⟩ := h
    refine ⟨_, pss_cons (ps_set (i := 1) scOrd.nd rfl (Or.inl rfl) pe_int)
      (pss_cons (ps_for PassesOwn.never rfl (pi_list (pe_call G hr (by rfl) DC.m DC.F.kp DC.b .nil pass0 (pa_cons (pv 0) pa_nil))) (pg_name (i := 2) scOrd.nd rfl (Or.inl rfl))
        (pss_one (ps_set (i := 1) scOrd.nd rfl (Or.inl rfl) (pe_callBfun cr_lcm (by rfl) T.lcm (pa_cons (pv 1) (pa_cons (pe_callB call_len_seq (by rfl) T.len PySem.boot_len (pa_cons (pv 2) pa_nil)) pa_nil))))))
      (pss_one (ps_ret (pv 1)))), ?_⟩
    refine ⟨_, rfl, a, t, n, rfl, ha, ht, by omega, fun p H1 cs M s1 e1 hM hL => ?_⟩
    refine ⟨p, rfl, ⟨_, SqL.of e1⟩, ?_⟩
    have hcl : cs.length = M.length := hM.length
    have hb : ∀ i, Pm.lcmOf (M.take i) ≤ 2 ^ 40 := by
      intro i
      have h1 := Pm.lcm_bound (b := 9) (by decide) (M.take i) (fun m hm => Nat.le_trans ((hL.sz m (List.mem_of_mem_take hm)).2) n9) 1
      have h2 : (M.take i).length ≤ 9 := by
        have := hL.ln
        rw [List.length_take]
        omega
      have h3 : 9 ^ (M.take i).length ≤ 9 ^ 9 := Nat.pow_le_pow_right (by decide) h2
      unfold Pm.lcmOf
      rw [Nat.one_mul] at h1
      exact Nat.le_trans h1 (Nat.le_trans h3 (by decide))
    refine for_list (xs := cs.map V.ref) (fun i σ H2 => ∃ t2 : Option V, σ = [some (.ref a), some (.int (Pm.lcmOf (M.take i) : Int)), t2] ∧ Same H1 H2) ⟨none, rfl, Same.refl _⟩ (fun i σ H2 _ z => by obtain ⟨_, _, s2⟩ := z; exact SqL.of (s2 _ _ e1)) ?_ ?_
    · rintro i x σ H2 hx ⟨t2, rfl, s2⟩
      have hi := (List.getElem?_eq_some_iff.mp hx).1
      rw [List.length_map] at hi
      rw [List.getElem?_map, List.getElem?_eq_getElem hi] at hx
      cases hx
      obtain ⟨L, m, hm, ec, hl⟩ := lens_at hM i hi
      have hm9 := (hL.sz m (List.mem_of_getElem? hm)).2
      have hb1 := hb i
      refine ⟨_, rfl, _, rfl, cs[i], _, rfl, .inl (SqL.of (s2 _ _ ec)), _, _, rfl, ?_, ?_, ?_⟩
      · rw [Int.natAbs_natCast]
        exact Nat.lt_of_le_of_lt hb1 (by decide)
      · rw [List.length_map, hl, Int.natAbs_natCast]
        exact Nat.lt_of_le_of_lt (show m ≤ 9 by omega) (by decide)
      · rw [List.length_map, hl, Int.natAbs_natCast, Int.natAbs_natCast]
        exact ⟨_, by rw [Pm.lcm_take hm]; rfl, s2⟩
    · rintro σ H2 ⟨t2, rfl, s2⟩
      rw [List.length_map, List.take_of_length_le (by omega)]
      have := hb M.length
      rw [List.take_of_length_le (Nat.le_refl _)] at this
      exact ⟨_, rfl, q _ H2 (s1.trans s2) (Pm.ord_lcm hL) this⟩
/-! ### what is a turn -/
def spTurnOf (K : PySem.W.Frag) : Sp := fun vs H Q _ => ∃ (a : Addr) (t : List Nat) (n : Nat), vs = [.int (n : Int), .ref a] ∧ SqT K H a (nats t) ∧ Pm.Turn n t ∧ n ≤ 60 ∧ ∀ H', Same H H' → Q (.bl true) H'
theorem scTurnOf : FnScope ["points", "value", "point"] ["points", "value"] (defScope sTurnOf) := ⟨rfl, rfl, rfl, by decide +kernel, rfl, by decide +kernel, by decide +kernel⟩
theorem ok_turnof {f fI : Addr} {fd fdI : FuncData} (F : Fun K "is_turn_of" "is_turn_of" sTurnOf f fd) (T : Txt K mg) (DI : Df K mg "is_integer" sInt ["value"] fI fdI) : FnOk P w K mg base CX0 2 f fd ["points", "value"] (spTurnOf K) := by
  have G := ok_int (P := P) (w := w) (base := base) DI.F T
  refine F.ok scTurnOf (fun vs H Q E h => ?_) (fun cdv A outer s H vs Q E hr h => ?_)
  · obtain ⟨a, t, n, rfl, _⟩ := h
    rfl
  · obtain ⟨a, t, n, rfl, ha, ht, n60, q⟩ := h
    refine ⟨_, pss_cons (ps_if (PW.pt (pw_or (pt_not (pt_val (pe_callB call_isi (by rfl) T.isi (by decide +kernel) (pa_cons (pv 1) (pa_cons (pe_bltn (v := .ty "tuple") (by rfl) T.tuple (by decide +kernel) rfl) pa_nil)))))
        (pw_or (pt_cmpR op_ne (pe_callB call_len_seq (by rfl) T.len PySem.boot_len (pa_cons (pv 1) pa_nil)) (pv 0) (nomark _))
        (pw_or1 (pt_not (pt_val (pe_callB (cr_all rfl) (by rfl) T.all (by decide +kernel) (pa_cons (pe_lc (own := [("point", 2)]) (g := gName 2) (tt := tYes) rfl scTurnOf.nd (pi_tup (pv 1))
          (blkOk_by (own := [("point", 2)]) (N := ["points", "value", "point"]) (sc := defScope sTurnOf) (by decide +kernel)) (fun _ _ _ _ _ => pg_name (i := 2) scTurnOf.nd rfl (Or.inl rfl)) (fun _ _ _ _ _ => pts_nil)
          (fun _ _ _ _ _ => pe_call G hr (by rfl) DI.m DI.F.kp DI.b .nil pass0 (pa_cons (pv 2) pa_nil))) pa_nil)))))))) (pss_one (ps_ret pe_bl)) pss_nil)
      (pss_one (ps_ret (pe_cmpR (op_eqD hr.units) (pe_callB Ur.cr_sortedT (by rfl) T.sorted (by decide +kernel) (pa_cons (pv 1) pa_nil)) (pe_listRg rfl (by rfl) T.list (prg_1 (by rfl) T.range (pv 0))) (nomark _)))), ?_⟩
    have hlen := ht.len
    have hnl : (nats t).length = t.length := List.length_map ..
    refine ⟨_, rfl, _, _, _, _, _, rfl, .ty "tuple", ty_tup ha, kit_ty k_tuple_tuple, true, rfl, iteF ?_⟩
    refine ⟨_, rfl, a, nats t, rfl, .inr ha, _, rfl, rfl, _, rfl, ?_⟩
    rw [dec_int, hnl, hlen, beq_self_eq_true]
    refine iteF ?_
    refine ⟨_, rfl, a, rfl, ⟨_, ha⟩, fun D hD => ?_⟩
    refine lc_tup (xs := nats t) (fun i H1 => Same H H1 ∧ H1 D = some (.lst ((List.replicate i true).map V.bl))) ⟨same_upd hD, upd_same⟩ (fun i H1 _ z => sqt_same z.1 ha) ?_ ?_
    · rintro i x H1 hx ⟨s1, e1⟩
      have hi := (List.getElem?_eq_some_iff.mp hx).1
      have hi' : i < t.length := by rw [List.length_map] at hi; exact hi
      rw [nats_at hi'] at hx
      cases hx
      have hp : t[i] < n := ht.mem.mp (List.getElem_mem hi')
      refine ⟨rfl, iteT (B := False) ?_⟩
      refine ⟨_, rfl, .int (t[i] : Int), .int (t[i] : Int), rfl, .int _, ?_⟩
      rw [small_isInt (by omega)]
      refine ⟨_, e1, ?_, same_put s1 hD, ?_⟩
      · rw [List.length_map, List.length_replicate]
        exact Nat.lt_of_le_of_lt (show i ≤ 60 by omega) (by decide)
      · rw [upd_same, List.replicate_succ', List.map_append]
        rfl
    · rintro H1 ⟨s1, e1⟩
      have hall : (List.replicate (nats t).length true).all id = true := List.all_eq_true.mpr fun b hb => by rw [(List.mem_replicate.mp hb).2]; rfl
      refine ⟨D, _, rfl, SqL.of e1, ?_⟩
      rw [hall]
      refine ⟨_, rfl, iteF ?_⟩
      have ha1 := sqt_same s1 ha
      have en : nats t = (t.map fun (p : Nat) => (p : Int)).map V.int := by rw [List.map_map]; rfl
      refine ⟨_, rfl, a, t.map fun (p : Nat) => (p : Int), rfl, by rw [← en]; exact ha1, by rw [List.length_map]; omega, fun ns' p hp hs np => ?_⟩
      rw [sorted_is ht hp hs]
      have s2 := same_upd (o := .lst (((List.range n).map fun (p : Nat) => (p : Int)).map V.int)) np
      have e2 : (upd H1 p (.lst (((List.range n).map fun (p : Nat) => (p : Int)).map V.int))) p = some (.lst (nats (List.range n))) := by
        rw [upd_same, List.map_map]
        rfl
      generalize upd H1 p (.lst (((List.range n).map fun (p : Nat) => (p : Int)).map V.int)) = H2 at s2 e2 ⊢
      refine ⟨_, rfl, _, rfl, RgOk.of_le (Int.le_refl 0) (by omega) (by decide) (by omega), fun p2 np2 => ?_⟩
      rw [rg_nats]
      have s3 := same_upd (o := .lst (nats (List.range n))) np2
      refine ⟨.list (natsD (List.range n)), .list (natsD (List.range n)), .lst (SqL.of (s3 _ _ e2)) (nats_all K _ _), .lst (SqL.of upd_same) (nats_all K _ _), shaped_lst _, shaped_lst _, ?_⟩
      rw [eq_lst]
      exact q _ ((s1.trans s2).trans s3)
def spIsTurn (K : PySem.W.Frag) : Sp := fun vs H Q _ => ∃ (a : Addr) (t : List Nat) (n : Nat), vs = [.ref a] ∧ SqT K H a (nats t) ∧ Pm.Turn n t ∧ 1 ≤ n ∧ n ≤ 60 ∧ ∀ H', Same H H' → Q (.bl true) H'
theorem scIsTurn : FnScope ["value"] ["value"] (defScope sIsTurn) := ⟨rfl, rfl, rfl, by decide +kernel, rfl, by decide +kernel, by decide +kernel⟩
theorem ok_isturn {f fO fI : Addr} {fd fdO fdI : FuncData} (F : Fun K "is_turn" "is_turn" sIsTurn f fd) (T : Txt K mg) (DO : Df K mg "is_turn_of" sTurnOf ["points", "value"] fO fdO) (DI : Df K mg "is_integer" sInt ["value"] fI fdI) : FnOk P w K mg base CX0 3 f fd ["value"] (spIsTurn K) := by
  have G := ok_turnof (P := P) (w := w) (base := base) DO.F T DI
  refine F.ok scIsTurn (fun vs H Q E h => ?_) (fun cdv A outer s H vs Q E hr h => ?_)
  · obtain ⟨a, t, n, rfl, _⟩ := h
    rfl
  · obtain ⟨a, t, n, rfl, ha, ht, n1, n60, q⟩ := h
    obtain ⟨tm, gm⟩ := T.mPts
    refine ⟨_, pss_one (ps_ret (pe_and (pe_callB call_isi (by rfl) T.isi (by decide +kernel) (pa_cons (pv 0) (pa_cons (pe_bltn (v := .ty "tuple") (by rfl) T.tuple (by decide +kernel) rfl) pa_nil)))
      (pe_and (pe_chain op_le op_le pe_int (pe_callB call_len_seq (by rfl) T.len PySem.boot_len (pa_cons (pv 0) pa_nil)) (pe_glob (v := .int 60) (by rfl) gm ⟨_, rfl⟩))
      (pe_one (pe_call G hr (by rfl) DO.m DO.F.kp DO.b .nil pass0 (pa_cons (pe_callB call_len_seq (by rfl) T.len PySem.boot_len (pa_cons (pv 0) pa_nil)) (pa_cons (pv 0) pa_nil))))))), ?_⟩
    have hlen := ht.len
    have hnl : (nats t).length = t.length := List.length_map ..
    refine ⟨_, rfl, _, _, _, _, _, rfl, .ty "tuple", ty_tup ha, kit_ty k_tuple_tuple, true, rfl, iteT ?_⟩
    refine ⟨_, rfl, a, nats t, rfl, .inr ha, _, _, rfl, rfl, true, congrArg V.bl (decide_eq_true (by rw [hnl, hlen]; omega)), iteT ?_⟩
    refine ⟨_, _, rfl, rfl, true, congrArg V.bl (decide_eq_true (by rw [hnl, hlen]; omega)), iteT ?_⟩
    refine ⟨_, rfl, a, nats t, rfl, .inr ha, _, rfl, a, t, n, by rw [hnl, hlen]; rfl, ha, ht, n60, q⟩
def spCheck (K : PySem.W.Frag) : Sp := fun vs H Q _ => ∃ (a : Addr) (t : List Nat) (n : Nat), vs = [.ref a] ∧ SqT K H a (nats t) ∧ Pm.Turn n t ∧ 1 ≤ n ∧ n ≤ 60 ∧ ∀ H', Same H H' → Q .non H'
theorem scCheck : FnScope ["value"] ["value"] (defScope sCheck) := ⟨rfl, rfl, rfl, by decide +kernel, rfl, by decide +kernel, by decide +kernel⟩
theorem ok_check {f fT fO fI : Addr} {fd fdT fdO fdI : FuncData} (F : Fun K "check_turn" "check_turn" sCheck f fd) (T : Txt K mg) (DT : Df K mg "is_turn" sIsTurn ["value"] fT fdT) (DO : Df K mg "is_turn_of" sTurnOf ["points", "value"] fO fdO) (DI : Df K mg "is_integer" sInt ["value"] fI fdI) : FnOk P w K mg base CX0 4 f fd ["value"] (spCheck K) := by
  have G := ok_isturn (P := P) (w := w) (base := base) DT.F T DO DI
  refine F.ok scCheck (fun vs H Q E h => ?_) (fun cdv A outer s H vs Q E hr h => ?_)
  · obtain ⟨a, t, n, rfl, _⟩ := h
    rfl
  · obtain ⟨a, t, n, rfl, ha, ht, n1, n60, q⟩ := h
    refine ⟨_, pss_one (ps_if (pt_not (pt_val (pe_call G hr (by rfl) DT.m DT.F.kp DT.b .nil pass0 (pa_cons (pv 0) pa_nil)))) (pss_one ps_never) pss_nil), ?_⟩
    exact ⟨_, rfl, a, t, n, rfl, ha, ht, n1, n60, fun H' s1 => ⟨_, rfl, iteF (q H' s1)⟩⟩
/-! ### the program's three -/
/-- what is called by them -/
structure Low (P : Program) (w : World) (K : PySem.W.Frag) (mg : Str → Option Value) (base : Heap) (fC fJ fU fO : Addr) (dC dJ dU dO : FuncData) : Prop where
  DC : Df K mg "check_turn" sCheck ["value"] fC dC
  DJ : Df K mg "joint_of" sJoint ["one", "other"] fJ dJ
  DU : Df K mg "undone_of" sUndoneOf ["turn"] fU dU
  DO : Df K mg "order_of" sOrderOf ["turn"] fO dO
  GC : FnOk P w K mg base CX0 4 fC dC ["value"] (spCheck K)
  GJ : FnOk P w K mg base CX0 1 fJ dJ ["one", "other"] (spJ2 K)
  GU : FnOk P w K mg base CX0 1 fU dU ["turn"] (spJ1 K)
  GO : FnOk P w K mg base CX0 2 fO dO ["turn"] (spOrd K)
def spJ (K : PySem.W.Frag) : Sp := fun vs H Q _ => ∃ (a b : Addr) (t u : List Nat) (n : Nat), vs = [.ref a, .ref b] ∧ SqT K H a (nats t) ∧ SqT K H b (nats u) ∧ Pm.Turn n t ∧ Pm.Turn n u ∧ 1 ≤ n ∧ n ≤ 9 ∧ ∀ p H', Same H H' → SqT K H' p (nats (Pm.joint t u)) → Q (.ref p) H'
def spU (K : PySem.W.Frag) : Sp := fun vs H Q _ => ∃ (a : Addr) (t : List Nat) (n : Nat), vs = [.ref a] ∧ SqT K H a (nats t) ∧ Pm.Turn n t ∧ 1 ≤ n ∧ n ≤ 9 ∧ ∀ p H', Same H H' → SqT K H' p (nats (Pm.undone t)) → Q (.ref p) H'
theorem scJ : FnScope ["one", "other"] ["one", "other"] (defScope sJ) := ⟨rfl, rfl, rfl, by decide +kernel, rfl, by decide +kernel, by decide +kernel⟩
theorem scU : FnScope ["turn"] ["turn"] (defScope sU) := ⟨rfl, rfl, rfl, by decide +kernel, rfl, by decide +kernel, by decide +kernel⟩
theorem scO : FnScope ["turn"] ["turn"] (defScope sO) := ⟨rfl, rfl, rfl, by decide +kernel, rfl, by decide +kernel, by decide +kernel⟩
theorem ok_J {f fC fJ fU fO : Addr} {fd dC dJ dU dO : FuncData} (F : Fun K "joint" "joint" sJ f fd) (T : Txt K mg) (G : Low P w K mg base fC fJ fU fO dC dJ dU dO) : FnOk P w K mg base CX0 5 f fd ["one", "other"] (spJ K) := by
  refine F.ok scJ (fun vs H Q E h => ?_) (fun cdv A outer s H vs Q E hr h => ?_)
  · obtain ⟨a, b, t, u, n, rfl, _⟩ := h
    rfl
  · obtain ⟨a, b, t, u, n, rfl, ha, hb, ht, hu', n1, n9, q⟩ := h
    have r1 : Room 1 _ := hr.mono (by decide)
    refine ⟨_, pss_cons (ps_expr (pe_call G.GC hr (by rfl) G.DC.m G.DC.F.kp G.DC.b .nil pass0 (pa_cons (pv 0) pa_nil)))
      (pss_cons (ps_expr (pe_call G.GC hr (by rfl) G.DC.m G.DC.F.kp G.DC.b .nil pass0 (pa_cons (pv 1) pa_nil)))
      (pss_cons (ps_if (pt_cmpR op_ne (pe_callB call_len_seq (by rfl) T.len PySem.boot_len (pa_cons (pv 0) pa_nil)) (pe_callB call_len_seq (by rfl) T.len PySem.boot_len (pa_cons (pv 1) pa_nil)) (nomark _)) (pss_one ps_never) pss_nil)
      (pss_one (ps_ret (pe_call G.GJ r1 (by rfl) G.DJ.m G.DJ.F.kp G.DJ.b .nil pass0 (pa_cons (pv 0) (pa_cons (pv 1) pa_nil))))))), ?_⟩
    have l1 := ht.len
    have l2 := hu'.len
    refine ⟨_, rfl, a, t, n, rfl, ha, ht, n1, by omega, fun H1 s1 => ?_⟩
    refine ⟨_, rfl, b, u, n, rfl, sqt_same s1 hb, hu', n1, by omega, fun H2 s2 => ?_⟩
    have s12 := s1.trans s2
    refine ⟨_, rfl, a, nats t, rfl, .inr (sqt_same s12 ha), _, rfl, b, nats u, rfl, .inr (sqt_same s12 hb), rfl, _, rfl, ?_⟩
    rw [dec_int, List.length_map, List.length_map, l1, l2, beq_self_eq_true]
    refine iteF ?_
    exact ⟨_, rfl, _, rfl, a, b, t, u, rfl, sqt_same s12 ha, sqt_same s12 hb, by omega, fun p hp => by rw [l2]; exact ht.mem.mp hp, fun p H' s h => q p H' (s12.trans s) h⟩
theorem ok_U {f fC fJ fU fO : Addr} {fd dC dJ dU dO : FuncData} (F : Fun K "undone_turn" "undone_turn" sU f fd) (T : Txt K mg) (G : Low P w K mg base fC fJ fU fO dC dJ dU dO) : FnOk P w K mg base CX0 5 f fd ["turn"] (spU K) := by
  refine F.ok scU (fun vs H Q E h => ?_) (fun cdv A outer s H vs Q E hr h => ?_)
  · obtain ⟨a, t, n, rfl, _⟩ := h
    rfl
  · obtain ⟨a, t, n, rfl, ha, ht, n1, n9, q⟩ := h
    have r1 : Room 1 _ := hr.mono (by decide)
    refine ⟨_, pss_cons (ps_expr (pe_call G.GC hr (by rfl) G.DC.m G.DC.F.kp G.DC.b .nil pass0 (pa_cons (pv 0) pa_nil)))
      (pss_one (ps_ret (pe_call G.GU r1 (by rfl) G.DU.m G.DU.F.kp G.DU.b .nil pass0 (pa_cons (pv 0) pa_nil)))), ?_⟩
    refine ⟨_, rfl, a, t, n, rfl, ha, ht, n1, by omega, fun H1 s1 => ?_⟩
    exact ⟨_, rfl, a, t, n, rfl, sqt_same s1 ha, ht, by omega, fun p H' s h => q p H' (s1.trans s) h⟩
theorem ok_O {f fC fJ fU fO : Addr} {fd dC dJ dU dO : FuncData} (F : Fun K "turn_order" "turn_order" sO f fd) (T : Txt K mg) (G : Low P w K mg base fC fJ fU fO dC dJ dU dO) : FnOk P w K mg base CX0 5 f fd ["turn"] (spOrd K) := by
  refine F.ok scO (fun vs H Q E h => ?_) (fun cdv A outer s H vs Q E hr h => ?_)
  · obtain ⟨a, t, n, rfl, _⟩ := h
    rfl
  · obtain ⟨a, t, n, rfl, ha, ht, n1, n9, q⟩ := h
    have r2 : Room 2 _ := hr.mono (by decide)
    refine ⟨_, pss_cons (ps_expr (pe_call G.GC hr (by rfl) G.DC.m G.DC.F.kp G.DC.b .nil pass0 (pa_cons (pv 0) pa_nil)))
      (pss_one (ps_ret (pe_call G.GO r2 (by rfl) G.DO.m G.DO.F.kp G.DO.b .nil pass0 (pa_cons (pv 0) pa_nil)))), ?_⟩
    refine ⟨_, rfl, a, t, n, rfl, ha, ht, n1, by omega, fun H1 s1 => ?_⟩
    exact ⟨_, rfl, a, t, n, rfl, sqt_same s1 ha, ht, n1, n9, fun L H' s h hb => q L H' (s1.trans s) h hb⟩
end
end K40

set_option Elab.async false
set_option linter.all false
set_option maxRecDepth 100000
set_option maxHeartbeats 3200000
namespace K40
open PySem PySem.Spec PyProof.Rows L2 Tx Tg Tm
/-! ### a tuple told whole -/
def FrzT (H : Hp) (a : Addr) (xs : List V) : Prop := ∃ o : Obj, H a = some (.frz o (.tup xs)) ∧ o.dict = none
theorem FrzT.sqt {K : PySem.W.Frag} {H : Hp} {a : Addr} {xs : List V} (h : FrzT H a xs) : SqT K H a xs := let ⟨o, h, _⟩ := h; .inl (.inr ⟨o, h⟩)
theorem FrzT.same {H H' : Hp} {a : Addr} {xs : List V} (s : Same H H') (h : FrzT H a xs) : FrzT H' a xs := let ⟨o, h, d⟩ := h; ⟨o, s _ _ h, d⟩
section
variable {X : Cx}
def rTupF (K : PySem.W.Frag) : List V → Hp → VK → Prop := fun xs H Q => ∃ p ys, xs = [.ref p] ∧ SqL K H p ys ∧ ∀ l o, H l = none → o.dict = none → Q (.ref l) (upd H l (.frz o (.tup ys)))
theorem call_tuple_frz : CallR X (.type "tuple") (rTupF X.K) := by
  intro pins s σ H xs us Q I r h
  obtain ⟨p, ys, rfl, hq, q⟩ := h
  obtain ⟨u, rfl, rx⟩ := vals1 r
  cases rx
  obtain ⟨its, r', pl, hz⟩ := I.list hq
  have hlen := r'.length
  refine call_tuple_list pl.isList (fun h' kp => ?_) (by simp only [List.size_toArray] <;> omega)
  have I1 : Inv X pins σ H { s with heap := h' } := I.kept (t' := s.toks) kp
  have g : (h'.push { cls := .type "tuple", data := .seq its.toArray }).get? h'.objs.size = some { cls := .type "tuple", data := .seq its.toArray } := Heap.get?_push_size _ rfl
  have I2 : Inv X pins σ (upd H h'.objs.size (.frz { cls := .type "tuple", data := .seq its.toArray } (.tup ys))) { s with heap := h'.push { cls := .type "tuple", data := .seq its.toArray } } :=
    I1.laid (t' := s.toks) (fun b o e => Heap.get?_push_of_some _ e) (Nat.le_refl _) (show ObjOk X.prog X.w _ _ _ (.frz _ (.tup ys)) from ⟨g, hz, its, r', IsTup.new _ _⟩)
  exact ⟨.ref h'.objs.size, _, I2, rfl, q _ _ (I1.hok.fresh (Nat.le_refl _)) rfl⟩
def rIdxT (K : PySem.W.Frag) : V → List V → Hp → VK → Prop := fun x xs H Q => ∃ p, ∃ ys : List Int, ∃ z j, x = .ref p ∧ xs = [.int z] ∧ SqT K H p (ys.map V.int) ∧ ys[j]? = some z ∧ (∀ m, m < j → ys[m]? ≠ some z) ∧ Q (.int (j : Nat)) H
def tBMF (r : V → List V → Hp → VK → Prop) (to : TE) (t : TA) : TE := fun σ H Q => to σ H fun x H1 => (∃ p xs, x = .ref p ∧ FrzT H1 p xs) ∧ t σ H1 fun xs H2 => r x xs H2 Q
variable {o e : Expr} {es : List Expr} {to : TE} {t : TA} {name : Str} {apos cpos : Pos} {id : String} {r : V → List V → Hp → VK → Prop}
theorem pe_bmF (pa : PlainAttrs "tuple") (slot : Slot "tuple" name id) (hty : typeOf (.builtin id) = pure (.type "method_descriptor")) (hm : MtR X id r) (ho : PE X o to) (ha : PA X (e :: es) t)
    (hbase : attributeBase o name X.env (eval o X.env) = eval o X.env := by rfl)
    (hfew : ((backTo cpos (starEach (e :: es) X.env)).all (fun x => !x.1) && (backToKw cpos (keywordEach [] X.env)).all (fun x => x.1.isSome)
      && decide ((e :: es).length + ([] : List Keyword).length + (if ([] : List Keyword).isEmpty then 0 else 1) < 30)) = true := by rfl)
    (hline : (apos.endLine == cpos.line) = true := by rfl) (hs : starEach (e :: es) X.env = (false, eval e X.env) :: starEach es X.env := by rfl) (hplain : (backTo cpos (starEach es X.env)).any (·.1) = false := by rfl) :
    PE X (.Call (.Attribute o name apos) (e :: es) [] cpos) (tBMF r to t) := by
  refine ⟨fun pins s σ H Q I h => ?_⟩
  refine wpAny_Call_method_late hbase hfew hline rfl (thn (ho.run pins s σ H _ I h) fun v s1 ⟨x, H1, I1, r1, ty, q1⟩ => ?_)
  obtain ⟨p, xs, rfl, ob, hf, hd⟩ := ty
  cases r1
  obtain ⟨e1, e2⟩ : s1.heap.get? p = some ob ∧ ObjOk X.prog X.w H1 s1.heap p (.tup xs) := I1.hok p _ hf
  obtain ⟨_, its, _, o2, g2, c2, n2, d2⟩ := e2
  rw [e1] at g2
  cases g2
  refine ⟨"tuple", id, pa, slot, hty, ⟨ob, e1, c2⟩, fun a ea => ⟨ob, by cases ea; exact e1, hd⟩, ?_⟩
  have hA := ha.run cpos pins s1 σ H1 _ I1 q1
  rw [hs] at hA ⊢
  refine Calls.callWith_builtin (by show (false || (backTo cpos (starEach es X.env)).any (·.1)) = false; rw [hplain] <;> rfl) (Calls.evalArgs_plain ?_)
  exact thn hA fun us s2 ⟨vs, H2, I2, r2, q2⟩ => hm pins s2 σ H2 (.ref p) vs (.ref p) us Q I2 rfl r2 q2
end
theorem nats_int (l : List Nat) : nats l = (l.map fun (p : Nat) => (p : Int)).map V.int := by rw [List.map_map]; rfl
theorem idx_first {n i : Nat} {t : List Nat} (ht : Pm.Turn n t) (hi : i < n) : (t.map fun (p : Nat) => (p : Int))[t.idxOf i]? = some (i : Int) ∧ ∀ m, m < t.idxOf i → (t.map fun (p : Nat) => (p : Int))[m]? ≠ some (i : Int) := by
  have hx : t.idxOf i < t.length := List.idxOf_lt_length_of_mem (ht.mem.mpr hi)
  have et : t[t.idxOf i] = i := List.getElem_idxOf _
  refine ⟨?_, fun m hm e => ?_⟩
  · rw [List.getElem?_map, List.getElem?_eq_getElem hx, et]
    rfl
  · have hm2 : m < t.length := Nat.lt_trans hm hx
    rw [List.getElem?_map, List.getElem?_eq_getElem hm2] at e
    have e2 : ((t[m] : Nat) : Int) = (i : Int) := Option.some.inj e
    have e3 : t[m] = i := by omega
    have := Pm.nodup_inj ht.nodup hm2 hx (e3.trans et.symm)
    omega
theorem eqv_lst (l m : List Nat) : PyData.eqv (.list (natsD l)) (.list (natsD m)) = decide (l = m) := eqv_nats l m
section
variable {P : Program} {w : World} {K : PySem.W.Frag} {mg : Str → Option Value} {base : Heap}
def spLedBack (K : PySem.W.Frag) : Sp := fun vs H Q _ => ∃ (a : Addr) (t : List Nat) (n : Nat), vs = [.ref a] ∧ FrzT H a (nats t) ∧ Pm.Turn n t ∧ n ≤ 60 ∧ ∀ p H', Same H H' → SqT K H' p (nats (Pm.undone t)) → Q (.ref p) H'
theorem scLedBack : FnScope ["_law_turn", "_law_spot"] ["_law_turn"] (defScope sLedBack) := ⟨rfl, rfl, rfl, by decide +kernel, rfl, by decide +kernel, by decide +kernel⟩
theorem ok_ledback {f : Addr} {fd : FuncData} (F : Fun K "_law_led_back" "_law_led_back" sLedBack f fd) (T : Txt K mg) : FnOk P w K mg base CX0 1 f fd ["_law_turn"] (spLedBack K) := by
  refine F.ok scLedBack (fun vs H Q E h => ?_) (fun cdv A outer s H vs Q E hr h => ?_)
  · obtain ⟨a, t, n, rfl, _⟩ := h
    rfl
  · obtain ⟨a, t, n, rfl, hf, ht, hn, q⟩ := h
    refine ⟨_, pss_one (ps_ret (pe_callTy call_tuple_of (by rfl) T.tuple (by decide +kernel) (pa_cons (pe_lc (own := [("_law_spot", 1)]) (g := gName 1) (tt := tYes) (te := tBMF (rIdxT K) (tVar 0) (tCons (tVar 1) tNil)) rfl scLedBack.nd
      (pi_range1 rfl T.range (pa_cons (pe_callB call_len_seq (by rfl) T.len PySem.boot_len (pa_cons (pv 0) pa_nil)) pa_nil))
      (blkOk_by (own := [("_law_spot", 1)]) (N := ["_law_turn", "_law_spot"]) (sc := defScope sLedBack) (by decide +kernel))
      (fun _ _ _ _ _ => pg_name (i := 1) scLedBack.nd rfl (Or.inl rfl)) (fun _ _ _ _ _ => pts_nil)
      (fun _ _ _ _ _ => pe_bmF PySem.F.plainAttrs_tuple PySem.F.slot_tuple_index PySem.F.type_tuple_index Ur.mt_tup_indexI (pv 0) (pa_cons (pv 1) pa_nil))) pa_nil))), ?_⟩
    have hlen := ht.len
    have hnl : (nats t).length = t.length := List.length_map ..
    have ha : SqT K H a (nats t) := hf.sqt
    refine ⟨_, rfl, a, nats t, rfl, .inr ha, _, rfl, by omega, by omega, fun D2 hD2 => ?_⟩
    have en : ((nats t).length : Int).toNat = t.length := by omega
    rw [en]
    refine lc_range (lo := 0) (n := t.length) (fun i H3 => Same H H3 ∧ H3 D2 = some (.lst (nats ((Pm.undone t).take i)))) ⟨same_upd hD2, upd_same⟩ ?_ ?_
    · rintro i H3 hi ⟨s3, e3⟩
      have hin : i < n := by omega
      rw [Int.zero_add]
      refine ⟨rfl, iteT (B := False) ?_⟩
      have h12 := idx_first ht hin
      refine ⟨_, rfl, ⟨a, nats t, rfl, hf.same s3⟩, _, rfl, a, t.map (fun (p : Nat) => (p : Int)), (i : Int), t.idxOf i, rfl, rfl, by rw [← nats_int]; exact (hf.same s3).sqt, h12.1, h12.2, ?_⟩
      refine ⟨_, e3, ?_, same_put s3 hD2, ?_⟩
      · rw [List.length_map, List.length_take, Pm.undone_len]
        exact Nat.lt_of_le_of_lt (show _ ≤ 60 by omega) (by decide)
      · have hul : i < (Pm.undone t).length := by rw [Pm.undone_len]; exact hi
        have eu : (Pm.undone t)[i] = t.idxOf i := by
          have := Pm.to_undone ht hin
          rw [Pm.to_get hul] at this
          exact this
        rw [upd_same, List.take_add_one, List.getElem?_eq_getElem hul, eu]
        show _ = some (HO.lst (List.map _ (_ ++ _)))
        rw [List.map_append]
        rfl
    · rintro H3 ⟨s3, e3⟩
      rw [List.take_of_length_le (by rw [Pm.undone_len]; exact Nat.le_refl _)] at e3
      refine ⟨D2, _, rfl, .inl ⟨SqL.of e3, fun pl npl => ?_⟩⟩
      exact q pl _ (s3.trans (same_upd npl)) (SqT.of upd_same)
def spStays (K : PySem.W.Frag) : Sp := fun vs H Q _ => ∃ (a : Addr) (t : List Nat), vs = [.ref a] ∧ SqT K H a (nats t) ∧ t.length ≤ 60 ∧ ∀ H', Same H H' → Q (.bl (decide (t = List.range t.length))) H'
theorem scStays : FnScope ["_law_turn"] ["_law_turn"] (defScope sStays) := ⟨rfl, rfl, rfl, by decide +kernel, rfl, by decide +kernel, by decide +kernel⟩
theorem ok_stays {f : Addr} {fd : FuncData} (F : Fun K "_law_stays" "_law_stays" sStays f fd) (T : Txt K mg) : FnOk P w K mg base CX0 1 f fd ["_law_turn"] (spStays K) := by
  refine F.ok scStays (fun vs H Q E h => ?_) (fun cdv A outer s H vs Q E hr h => ?_)
  · obtain ⟨a, t, rfl, _⟩ := h
    rfl
  · obtain ⟨a, t, rfl, ha, hn, q⟩ := h
    refine ⟨_, pss_one (ps_ret (pe_cmpR (op_eqD hr.units) (pe_callTy call_list_of (by rfl) T.list (by decide +kernel) (pa_cons (pv 0) pa_nil))
      (pe_listRg rfl (by rfl) T.list (prg_1 (by rfl) T.range (pe_callB call_len_seq (by rfl) T.len PySem.boot_len (pa_cons (pv 0) pa_nil)))) (nomark _))), ?_⟩
    have hnl : (nats t).length = t.length := List.length_map ..
    refine ⟨_, rfl, a, nats t, rfl, .inr ha, fun p1 np1 => ?_⟩
    have s1 := same_upd (o := .lst (nats t)) np1
    refine ⟨_, rfl, a, nats t, rfl, .inr (sqt_same s1 ha), _, rfl, RgOk.of_le (Int.le_refl 0) (by omega) (by decide) (by omega), fun p2 np2 => ?_⟩
    rw [hnl, rg_nats]
    have s2 := same_upd (o := .lst (nats (List.range t.length))) np2
    refine ⟨.list (natsD t), .list (natsD (List.range t.length)), .lst (SqL.of (s2 _ _ upd_same)) (nats_all K _ _), .lst (SqL.of upd_same) (nats_all K _ _), shaped_lst _, shaped_lst _, ?_⟩
    rw [eqv_lst]
    exact q _ (s1.trans s2)
end
end K40

set_option Elab.async false
set_option linter.all false
set_option maxRecDepth 100000
set_option maxHeartbeats 3200000
namespace K40
open PySem L2 Tx Tg Tm
section
variable {P : Program} {w : World} {K : PySem.W.Frag} {mg : Str → Option Value} {base : Heap}
abbrev nTimes : List Str := ["_law_turn", "_law_found", "_law_much"]
def spTimes (K : PySem.W.Frag) : Sp := fun vs H Q _ => ∃ (a : Addr) (t : List Nat) (n L : Nat), vs = [.ref a] ∧ SqT K H a (nats t) ∧ Pm.Turn n t ∧ n ≤ 9 ∧ Pm.Ord n t L ∧ ∀ H', Same H H' → Q (.int (L : Int)) H'
theorem scTimes : FnScope nTimes ["_law_turn"] (defScope sTimes) := ⟨rfl, rfl, rfl, by decide +kernel, rfl, by decide +kernel, by decide +kernel⟩
theorem ok_times {f fS fL : Addr} {fd dS dL : FuncData} (F : Fun K "_law_times_round" "_law_times_round" sTimes f fd) (T : Txt K mg) (DS : Df K mg "_law_stays" sStays ["_law_turn"] fS dS) (DL : Df K mg "_law_led_on" sLedOn ["_law_turn", "_law_other"] fL dL) :
    FnOk P w K mg base CX0 2 f fd ["_law_turn"] (spTimes K) := by
  have GS := ok_stays (P := P) (w := w) (base := base) DS.F T
  have GL := ok_ledon (P := P) (w := w) (base := base) DL.F T
  refine F.ok scTimes (fun vs H Q E h => ?_) (fun cdv A outer s H vs Q E hr h => ?_)
  · obtain ⟨a, t, n, L, rfl, _⟩ := h
    rfl
  · obtain ⟨a, t, n, L, rfl, ha, ht, n9, hO, q⟩ := h
    refine ⟨_, pss_cons (ps_par (i := 1) (j := 2) (by rfl) scTimes.nd rfl rfl (by decide) rfl rfl (pa_cons (pv 0) (pa_cons pe_int pa_nil)) (by rfl))
      (pss_cons (ps_while PassesOwn.never (pt_not (pt_val (pe_call GS hr (by rfl) DS.m DS.F.kp DS.b .nil pass0 (pa_cons (pv 1) pa_nil))))
        (pss_one (ps_par (i := 1) (j := 2) (by rfl) scTimes.nd rfl rfl (by decide) rfl rfl (pa_cons (pe_call GL hr (by rfl) DL.m DL.F.kp DL.b .nil pass0 (pa_cons (pv 1) (pa_cons (pv 0) pa_nil))) (pa_cons (pe_op op_add (pv 2) pe_int) pa_nil)) (by rfl))))
      (pss_one (ps_ret (pv 2)))), ?_⟩
    have hlen := ht.len
    refine ⟨_, rfl, _, _, rfl, ?_⟩
    refine while_by (fun σ H1 => ∃ (j : Nat) (p : Addr), σ = [some (.ref a), some (.ref p), some (.int ((j + 1 : Nat) : Int))] ∧ Same H H1 ∧ SqT K H1 p (nats (Pm.pw t j)) ∧ j + 1 ≤ L)
      (fun σ _ => match σ with
        | [_, _, some (.int m)] => L - m.toNat
        | _ => 0) ⟨0, a, rfl, Same.refl H, ha, hO.1⟩ ?_ ?_
    · rintro σ H1 ⟨j, p, rfl, s1, hp, hj⟩
      have hT := Pm.turn_pw ht j
      refine ⟨_, rfl, p, Pm.pw t j, rfl, hp, by rw [hT.len]; omega, fun H2 s2 => ⟨_, rfl, ?_⟩⟩
      rw [hT.len]
      have s12 := s1.trans s2
      by_cases e : Pm.pw t j = List.range n
      · rw [decide_eq_true e]
        refine iteF ?_
        have hd := (Pm.pw_still ht hO).mp e
        have hL : L = j + 1 := Nat.le_antisymm (Nat.le_of_dvd (Nat.succ_pos j) hd) hj
        refine ⟨_, rfl, ?_⟩
        rw [← hL]
        exact q H2 s12
      · rw [decide_eq_false e]
        refine iteT ?_
        have hne : L ≠ j + 1 := fun z => e ((Pm.pw_still ht hO).mpr (by rw [z]; exact Nat.dvd_refl _))
        refine ⟨_, rfl, _, rfl, p, a, Pm.pw t j, t, rfl, sqt_same s2 hp, sqt_same s12 ha, by rw [hT.len]; omega, fun x hx => by rw [hlen]; exact hT.mem.mp hx, fun p3 H3 s3 hp3 => ?_⟩
        refine ⟨_, rfl, _, _, rfl, rfl, _, _, rfl, ?_⟩
        refine ⟨⟨j + 1, p3, rfl, s12.trans s3, hp3, by omega⟩, ?_⟩
        show L - (((j + 1 : Nat) : Int) + 1).toNat < L - ((j + 1 : Nat) : Int).toNat
        omega
    · rintro σ H1 Q1 Q2 hQ ⟨v, e, b, u, ex, hb, hu, hq⟩
      exact ⟨v, e, b, u, ex, hb, hu, fun H' s => let ⟨c, ec, hc⟩ := hq H' s; ⟨c, ec, hQ _ _ hc⟩⟩
/-! ### a drawn turn -/
abbrev nDealt : List Str := ["_law_cup_here", "_law_items", "_law_waits", "_law_turn"]
def spDealt : Sp := fun vs H Q _ => ∃ (c a : Addr) (n : Nat), vs = [.ref c, .ref a] ∧ Cup H c ∧ H a = some (.lst (nats (List.range n))) ∧ n ≤ 9 ∧ ∀ p H' t, Cup H' c → But c H H' → H' p = some (.lst (nats t)) → Pm.Turn n t → Q (.ref p) H'
theorem scDealt : FnScope nDealt ["_law_cup_here", "_law_items"] (defScope sDealt) := ⟨rfl, rfl, rfl, by decide +kernel, rfl, by decide +kernel, by decide +kernel⟩
theorem erase_map {α β : Type} (f : α → β) : ∀ (l : List α) (r : Nat), (l.map f).eraseIdx r = (l.eraseIdx r).map f
  | [], _ => rfl
  | _ :: _, 0 => rfl
  | a :: l, r + 1 => by
    show f a :: (l.map f).eraseIdx r = f a :: (l.eraseIdx r).map f
    rw [erase_map f l r]
theorem erase_perm {α : Type} : ∀ (l : List α) (r : Nat) (h : r < l.length), (l[r] :: l.eraseIdx r).Perm l
  | [], _, h => absurd h (Nat.not_lt_zero _)
  | _ :: _, 0, _ => List.Perm.refl _
  | a :: l, r + 1, h => (List.Perm.swap _ _ _).trans ((erase_perm l r (Nat.lt_of_succ_lt_succ h)).cons a)
theorem idx_nat {r n : Nat} (h : r < n) : seqIndex? (r : Int) n = some r := by
  unfold seqIndex?
  have h0 : ¬ ((r : Int) < 0) := by omega
  simp only [h0, if_false]
  have h1 : (0 : Int) ≤ (r : Int) ∧ (r : Int) < (n : Int) := by omega
  simp [h1.2]
  try omega
theorem nat9 {k : Nat} (h : k ≤ 2 ^ 7) : k < 2 ^ 9000 := Nat.lt_of_le_of_lt h (Nat.pow_lt_pow_right (by decide) (by decide))
theorem ok_dealt {f fB : Addr} {fd dB : FuncData} (F : Fun K "_law_dealt" "_law_dealt" sDealt f fd) (T : Txt K mg) (DB : Df K mg "_law_bit" sBit ["_law_cup_here", "_law_much"] fB dB) : FnOk P w K mg base CX0 2 f fd ["_law_cup_here", "_law_items"] spDealt := by
  have GB := ok_bit (P := P) (w := w) (base := base) DB.F T
  refine F.ok scDealt (fun vs H Q E h => ?_) (fun cdv A outer s H vs Q E hr h => ?_)
  · obtain ⟨c, a, n, rfl, _⟩ := h
    rfl
  · obtain ⟨c, a, n, rfl, hc, ha, n9, q⟩ := h
    refine ⟨_, pss_cons (ps_set (i := 2) scDealt.nd rfl (Or.inr rfl) (pe_callTy call_list_of (by rfl) T.list (by decide +kernel) (pa_cons (pv 1) pa_nil)))
      (pss_one (ps_ret (pe_lc (own := [("_law_turn", 3)]) (g := gName 3) (tt := tYes) (te := tBM K "list" rPopAt (tVar 2) (tCons (tCall spBit [] E0 (tCons (tVar 0) (tCons (tCB (fun xs H Q => ∃ p ys, xs = [.ref p] ∧ (SqL K H p ys ∨ SqT K H p ys) ∧ Q (.int ys.length) H) (tCons (tVar 2) tNil)) tNil))) tNil)) rfl scDealt.nd
        (pi_range1 rfl T.range (pa_cons (pe_callB call_len_seq (by rfl) T.len PySem.boot_len (pa_cons (pv 1) pa_nil)) pa_nil))
        (blkOk_by (own := [("_law_turn", 3)]) (N := nDealt) (sc := defScope sDealt) (by decide +kernel))
        (fun _ _ _ _ _ => pg_name (i := 3) scDealt.nd rfl (Or.inl rfl)) (fun _ _ _ _ _ => pts_nil)
        (fun _ _ _ _ _ => pe_bm PySem.F.plainAttrs_list PySem.F.slot_list_pop PySem.F.type_list_pop mt_popAt (pv 2) (pa_cons (pe_call GB hr (by rfl) DB.m DB.F.kp DB.b .nil pass0 (pa_cons (pv 0) (pa_cons (pe_callB call_len_seq (by rfl) T.len PySem.boot_len (pa_cons (pv 2) pa_nil)) pa_nil))) pa_nil))))), ?_⟩
    have hrl : (nats (List.range n)).length = n := by rw [List.length_map, List.length_range]
    refine ⟨_, rfl, a, _, rfl, .inl (SqL.of ha), fun W nW => ?_⟩
    have sW := same_upd (o := .lst (nats (List.range n))) nW
    have eW : (upd H W (.lst (nats (List.range n)))) W = some (.lst (nats (List.range n))) := upd_same
    have nWc : W ≠ c := hc.ne nW
    have hc1 := hc.same sW
    have ha1 := sW _ _ ha
    have hf1 : ∀ b, b ≠ W → H b = none → (upd H W (.lst (nats (List.range n)))) b = none := fun b hb e => by rw [upd_ne hb]; exact e
    generalize upd H W (.lst (nats (List.range n))) = H1 at sW eW hc1 ha1 hf1 ⊢
    refine ⟨_, rfl, a, _, rfl, .inl (SqL.of ha1), _, rfl, by omega, by omega, fun D nD => ?_⟩
    have nDc : D ≠ c := hc1.ne nD
    have nDW : D ≠ W := (ne_of_none eW nD).symm
    have nD0 : H D = none := free_none sW nD
    have en : ((nats (List.range n)).length : Int).toNat = n := by omega
    rw [en]
    refine lc_range (lo := 0) (n := n) (fun i H2 => ∃ got left : List Nat, H2 D = some (.lst (nats got)) ∧ H2 W = some (.lst (nats left)) ∧ got.length = i ∧ (got ++ left).Perm (List.range n) ∧ Cup H2 c ∧ But c H H2)
      ⟨[], List.range n, upd_same, by rw [upd_ne nDW.symm]; exact eW, rfl, List.Perm.refl _, hc1.same (same_upd nD), But.of (sW.trans (same_upd nD))⟩ ?_ ?_
    · rintro i H2 hi ⟨got, left, eD, eW2, hg, hp, hc2, b2⟩
      have hl : left.length = n - i := by
        have := hp.length_eq
        rw [List.length_append, List.length_range] at this
        omega
      have hnl : (nats left).length = left.length := List.length_map ..
      refine ⟨rfl, iteT (B := False) ?_⟩
      refine ⟨_, rfl, .inl ⟨rfl, _, SqL.of eW2⟩, _, rfl, _, rfl, W, _, rfl, .inl (SqL.of eW2), c, _, rfl, hc2, by omega, ?_, fun r H3 r0 rm hc3 b3 => ?_⟩
      · refine nat9 (by rw [hnl, Int.natAbs_natCast]; omega)
      · obtain ⟨r, rfl⟩ : ∃ k : Nat, r = (k : Int) := ⟨r.toNat, by omega⟩
        have hrl2 : r < left.length := by omega
        have eD3 := b3 _ _ nDc eD
        have eW3 := b3 _ _ nWc eW2
        refine ⟨W, _, (r : Int), r, _, rfl, rfl, eW3, by omega, by omega, idx_nat (by rw [hnl]; exact hrl2), nats_at hrl2, ?_⟩
        refine ⟨nats got, by rw [upd_ne nDW]; exact eD3, ?_, got ++ [left[r]], left.eraseIdx r, ?_, ?_, ?_, ?_, ?_, ?_⟩
        · rw [List.length_map, hg]
          exact Nat.lt_of_le_of_lt (show _ ≤ 60 by omega) (by decide)
        · rw [upd_same]
          show _ = some (HO.lst (List.map _ (_ ++ _)))
          rw [List.map_append]
          rfl
        · rw [upd_ne nDW.symm, upd_same]
          show some (HO.lst ((left.map _).eraseIdx r)) = some (HO.lst ((left.eraseIdx r).map _))
          rw [erase_map]
        · rw [List.length_append, hg]
          rfl
        · rw [List.append_assoc]
          exact (List.Perm.append_left got (erase_perm left r hrl2)).trans hp
        · obtain ⟨c0, c1, c2, ec⟩ := hc3
          exact ⟨c0, c1, c2, by rw [upd_ne nDc.symm, upd_ne nWc.symm]; exact ec⟩
        · intro b o n' e
          rw [upd_ne (ne_of_none e nD0), upd_ne (ne_of_none e nW)]
          exact b3 _ _ n' (b2 _ _ n' e)
    · rintro H2 ⟨got, left, eD, eW2, hg, hp, hc2, b2⟩
      have hl : left = [] := by
        have := hp.length_eq
        rw [List.length_append, List.length_range] at this
        exact List.eq_nil_of_length_eq_zero (by omega)
      rw [hl, List.append_nil] at hp
      exact q D H2 got hc2 b2 eD hp
def spAny : Sp := fun vs H Q _ => ∃ (c : Addr) (n : Nat), vs = [.ref c, .int (n : Int)] ∧ Cup H c ∧ n ≤ 9 ∧ ∀ p H' t, Cup H' c → But c H H' → FrzT H' p (nats t) → Pm.Turn n t → Q (.ref p) H'
theorem scAny : FnScope ["_law_cup_here", "_law_points"] ["_law_cup_here", "_law_points"] (defScope sAny) := ⟨rfl, rfl, rfl, by decide +kernel, rfl, by decide +kernel, by decide +kernel⟩
theorem ok_any {f fD fB : Addr} {fd dD dB : FuncData} (F : Fun K "_law_any_turn" "_law_any_turn" sAny f fd) (T : Txt K mg) (DD : Df K mg "_law_dealt" sDealt ["_law_cup_here", "_law_items"] fD dD) (DB : Df K mg "_law_bit" sBit ["_law_cup_here", "_law_much"] fB dB) : FnOk P w K mg base CX0 3 f fd ["_law_cup_here", "_law_points"] spAny := by
  have GD := ok_dealt (P := P) (w := w) (base := base) DD.F T DB
  refine F.ok scAny (fun vs H Q E h => ?_) (fun cdv A outer s H vs Q E hr h => ?_)
  · obtain ⟨c, n, rfl, _⟩ := h
    rfl
  · obtain ⟨c, n, rfl, hc, n9, q⟩ := h
    refine ⟨_, pss_one (ps_ret (pe_callTy call_tuple_frz (by rfl) T.tuple (by decide +kernel) (pa_cons (pe_call GD hr (by rfl) DD.m DD.F.kp DD.b .nil pass0 (pa_cons (pv 0) (pa_cons (pe_listRg rfl (by rfl) T.list (prg_1 (by rfl) T.range (pv 1))) pa_nil))) pa_nil))), ?_⟩
    refine ⟨_, rfl, _, rfl, _, rfl, RgOk.of_le (Int.le_refl 0) (by omega) (by decide) (by omega), fun p1 np1 => ?_⟩
    rw [rg_nats]
    have s1 := same_upd (o := .lst (nats (List.range n))) np1
    refine ⟨c, p1, n, rfl, hc.same s1, upd_same, n9, fun p2 H2 t hc2 b2 e2 ht => ?_⟩
    refine ⟨p2, _, rfl, SqL.of e2, fun p3 o np3 hd => ?_⟩
    have s3 := same_upd (o := .frz o (.tup (nats t))) np3
    exact q p3 _ t (hc2.same s3) (((But.of s1).trans b2).trans (But.of s3)) ⟨o, upd_same, hd⟩ ht
end
end K40

set_option Elab.async false
set_option linter.all false
set_option maxRecDepth 100000
set_option maxHeartbeats 3200000
namespace K40
open PySem L2 Tx Tg Tm
/-! ### readings that give turns and plain values -/
section
variable (K : PySem.W.Frag)
def EvT (te : TE) (σ : L2.St) (H0 : Hp) (t : List Nat) : Prop := ∀ H, Same H0 H → ∀ Q : VK, (∀ p H', Same H H' → SqT K H' p (nats t) → Q (.ref p) H') → te σ H Q
def EvZ (te : TE) (σ : L2.St) (H0 : Hp) (t : List Nat) : Prop := ∀ H, Same H0 H → ∀ Q : VK, (∀ p H', Same H H' → FrzT H' p (nats t) → Q (.ref p) H') → te σ H Q
def EvV (te : TE) (σ : L2.St) (H0 : Hp) (v : V) : Prop := ∀ H, Same H0 H → ∀ Q : VK, (∀ H', Same H H' → Q v H') → te σ H Q
def EvF (t : TT) (σ : L2.St) (H0 : Hp) : Prop := ∀ H, Same H0 H → ∀ D : Bool → Hp → Prop, (∀ H', Same H H' → D false H') → t σ H D
end
/-! ### what is shown of a turn -/
theorem str_app (a b : Str) : (a ++ b).length = a.length + b.length := Array.size_append
theorem shown20 : ∀ p < 60, (PyData.shown (.int ((p : Nat) : Int))).length ≤ 20 := by decide +kernel
theorem piled_le : ∀ l : List Nat, (∀ p ∈ l, p < 60) → PySem.piled (PyData.shownAll (natsD l)) ≤ 22 * l.length
  | [], _ => Nat.zero_le _
  | z :: l, h => by
    show PySem.piled (PyData.shown (.int (z : Int)) :: PyData.shownAll (natsD l)) ≤ _
    rw [PySem.piled_cons, List.length_cons]
    have := shown20 z (h z List.mem_cons_self)
    have := piled_le l fun y hy => h y (List.mem_cons_of_mem _ hy)
    omega
theorem shown_len {l : List Nat} (h : ∀ p ∈ l, p < 60) (hl : l.length ≤ 60) : (PyData.shown (.tuple (natsD l))).length ≤ sizeLine := by
  have hp := piled_le l h
  have hj : (Str.join ", " (PyData.shownAll (natsD l))).length ≤ 22 * l.length := by
    by_cases e : PyData.shownAll (natsD l) = []
    · rw [e]
      exact Nat.zero_le _
    · have := PySem.join_length_add _ e
      omega
  show (("(" : Str) ++ Str.join ", " (PyData.shownAll (natsD l)) ++ (if (PyData.shownAll (natsD l)).length == 1 then ",)" else ")" : String)).length ≤ sizeLine
  rw [str_app, str_app]
  have e1 : ("(" : Str).length = 1 := by decide +kernel
  have e2 : ∀ b : Bool, (((if b = true then ",)" else ")" : String)) : Str).length ≤ 2 := by decide +kernel
  have e3 := e2 ((PyData.shownAll (natsD l)).length == 1)
  rw [e1]
  refine Nat.le_trans (show _ ≤ 2000 by omega) (by decide)
theorem show60 : ∀ p < 60, PyData.showable (.int ((p : Nat) : Int)) = true := by decide +kernel
theorem show_all : ∀ l : List Nat, (∀ p ∈ l, p < 60) → PyData.showableAll (natsD l) = true
  | [], _ => rfl
  | c :: l, h => by
    show (PyData.showable (.int ((c : Nat) : Int)) && PyData.showableAll (natsD l)) = true
    rw [show60 c (h c List.mem_cons_self), show_all l fun y hy => h y (List.mem_cons_of_mem _ hy)]
    rfl
theorem nodict_all : ∀ l : List Nat, PyData.hasDictAll (natsD l) = false
  | [] => rfl
  | c :: l => by
    show (false || PyData.hasDictAll (natsD l)) = false
    rw [nodict_all l]
    rfl
section
variable {K : PySem.W.Frag} {σ : L2.St} {H0 H : Hp} {t u : List Nat} {n L : Nat} {ta tb : TE} {x y : V} {p q : TT} {us : TS} {D : Ends}
theorem EvZ.toT (e : EvZ ta σ H0 t) : EvT K ta σ H0 t := fun H s Q q => e H s Q fun p H' s' h => q p H' s' h.sqt
theorem EvT.later {H1 : Hp} (s : Same H0 H1) (e : EvT K ta σ H0 t) : EvT K ta σ H1 t := fun H s2 => e H (s.trans s2)
theorem et_var {i : Nat} {a : Addr} (hi : σ[i]? = some (some (.ref a))) (h : SqT K H0 a (nats t)) : EvT K (tVar i) σ H0 t := fun H s Q q => ⟨_, hi, q a H (Same.refl H) (sqt_same s h)⟩
theorem ez_var {i : Nat} {a : Addr} (hi : σ[i]? = some (some (.ref a))) (h : FrzT H0 a (nats t)) : EvZ (tVar i) σ H0 t := fun H s Q q => ⟨_, hi, q a H (Same.refl H) (h.same s)⟩
theorem ev_var {i : Nat} (hi : σ[i]? = some (some x)) : EvV (tVar i) σ H0 x := fun H s Q q => ⟨_, hi, q H (Same.refl H)⟩
theorem ev_c : EvV (tC x) σ H0 x := fun H s Q q => q H (Same.refl H)
theorem et_joint (e1 : EvT K ta σ H0 t) (e2 : EvT K tb σ H0 u) (ht : Pm.Turn n t) (hu : Pm.Turn n u) (n1 : 1 ≤ n) (n9 : n ≤ 9) : EvT K (tCall (spJ K) [] E0 (tCons ta (tCons tb tNil))) σ H0 (Pm.joint t u) := fun H s Q q =>
  e1 H s _ fun p H1 s1 h1 => e2 H1 (s.trans s1) _ fun p2 H2 s2 h2 => ⟨p, p2, t, u, n, rfl, sqt_same s2 h1, h2, ht, hu, n1, n9, fun z H3 s3 h3 => q z H3 ((s1.trans s2).trans s3) h3⟩
theorem et_undone (e1 : EvT K ta σ H0 t) (ht : Pm.Turn n t) (n1 : 1 ≤ n) (n9 : n ≤ 9) : EvT K (tCall (spU K) [] E0 (tCons ta tNil)) σ H0 (Pm.undone t) := fun H s Q q =>
  e1 H s _ fun p H1 s1 h1 => ⟨p, t, n, rfl, h1, ht, n1, n9, fun z H3 s3 h3 => q z H3 (s1.trans s3) h3⟩
theorem et_ledon (e1 : EvT K ta σ H0 t) (e2 : EvT K tb σ H0 u) (ht : Pm.Turn n t) (hu : Pm.Turn n u) (n9 : n ≤ 9) : EvT K (tCall (spJ2 K) [] E0 (tCons ta (tCons tb tNil))) σ H0 (Pm.joint t u) := fun H s Q q =>
  e1 H s _ fun p H1 s1 h1 => e2 H1 (s.trans s1) _ fun p2 H2 s2 h2 => ⟨p, p2, t, u, rfl, sqt_same s2 h1, h2, by rw [ht.len]; omega, fun x hx => by rw [hu.len]; exact ht.mem.mp hx, fun z H3 s3 h3 => q z H3 ((s1.trans s2).trans s3) h3⟩
theorem et_ledback (e1 : EvZ ta σ H0 t) (ht : Pm.Turn n t) (n9 : n ≤ 9) : EvT K (tCall (spLedBack K) [] E0 (tCons ta tNil)) σ H0 (Pm.undone t) := fun H s Q q =>
  e1 H s _ fun p H1 s1 h1 => ⟨p, t, n, rfl, h1, ht, by omega, fun z H3 s3 h3 => q z H3 (s1.trans s3) h3⟩
theorem ev_order (e1 : EvT K ta σ H0 t) (ht : Pm.Turn n t) (n1 : 1 ≤ n) (n9 : n ≤ 9) (hO : Pm.Ord n t L) : EvV (tCall (spOrd K) [] E0 (tCons ta tNil)) σ H0 (.int (L : Int)) := fun H s Q q =>
  e1 H s _ fun p H1 s1 h1 => ⟨p, t, n, rfl, h1, ht, n1, n9, fun L2 H3 s3 h3 _ => by
    have e := Pm.ord_uniq h3 hO
    subst e
    exact q H3 (s1.trans s3)⟩
theorem ev_times (e1 : EvT K ta σ H0 t) (ht : Pm.Turn n t) (n9 : n ≤ 9) (hO : Pm.Ord n t L) : EvV (tCall (spTimes K) [] E0 (tCons ta tNil)) σ H0 (.int (L : Int)) := fun H s Q q =>
  e1 H s _ fun p H1 s1 h1 => ⟨p, t, n, L, rfl, h1, ht, n9, hO, fun H3 s3 => q H3 (s1.trans s3)⟩
theorem ev_show (e1 : EvT K ta σ H0 t) (ht : Pm.Turn n t) (n9 : n ≤ 9) : EvV (tCB (rShow K) (tCons ta tNil)) σ H0 (.str (PyData.shown (.tuple (natsD t)))) := fun H s Q q =>
  e1 H s _ fun p H1 s1 h1 => ⟨.ref p, .tuple (natsD t), rfl, .flat (.tup h1 (nats_all K _ _)) (nodict_all t), show_all t (fun x hx => Nat.lt_of_lt_of_le (ht.mem.mp hx) (by omega)), by
    show PyData.depthAll (natsD t) + 1 < 60
    rw [deep_nats]
    decide, shown_len (fun x hx => Nat.lt_of_lt_of_le (ht.mem.mp hx) (by omega)) (by rw [ht.len]; omega), q H1 s1⟩
theorem ef_or (e1 : EvF p σ H0) (e2 : EvF q σ H0) : EvF (tOr p q) σ H0 := fun H s D q => e1 H s _ fun H1 s1 => iteF (e2 H1 (s.trans s1) _ fun H2 s2 => q H2 (s1.trans s2))
theorem ef_ne (e1 : EvV ta σ H0 x) (e2 : EvV tb σ H0 x) (hx : scal x x = true) : EvF (tTest (tOp rNe ta tb)) σ H0 := fun H s D q => e1 H s _ fun H1 s1 => e2 H1 (s.trans s1) _ fun H2 s2 => ⟨hx, _, rfl, by
  rw [decide_eq_true rfl]
  exact q H2 (s1.trans s2)⟩
theorem ef_neT (e1 : EvT K ta σ H0 t) (e2 : EvT K tb σ H0 u) (e : t = u) : EvF (tTest (tOp (rNeD K) ta tb)) σ H0 := fun H s D q => e1 H s _ fun p1 H1 s1 h1 => e2 H1 (s.trans s1) _ fun p2 H2 s2 h2 =>
  ⟨.tuple (natsD t), .tuple (natsD u), .tup (sqt_same s2 h1) (nats_all K _ _), .tup h2 (nats_all K _ _), shaped_tup _, shaped_tup _, _, rfl, by
    rw [eq_tup, decide_eq_true e]
    exact q H2 (s1.trans s2)⟩
theorem ev_eq (e1 : EvV ta σ H0 x) (e2 : EvV tb σ H0 y) (hx : scal x y = true) : EvV (tOp rEq ta tb) σ H0 (.bl (decide (x = y))) := fun H s D q => e1 H s _ fun H1 s1 => e2 H1 (s.trans s1) _ fun H2 s2 => ⟨hx, q H2 (s1.trans s2)⟩
theorem ev_eqT (e1 : EvT K ta σ H0 t) (e2 : EvT K tb σ H0 u) : EvV (tOp (rEqD K) ta tb) σ H0 (.bl (decide (t = u))) := fun H s D q => e1 H s _ fun p1 H1 s1 h1 => e2 H1 (s.trans s1) _ fun p2 H2 s2 h2 =>
  ⟨.tuple (natsD t), .tuple (natsD u), .tup (sqt_same s2 h1) (nats_all K _ _), .tup h2 (nats_all K _ _), shaped_tup _, shaped_tup _, by
    rw [eq_tup]
    exact q H2 (s1.trans s2)⟩
theorem ev_eqO (e1 : EvT K ta σ H0 t) (e2 : EvT K tb σ H0 u) (ht : Pm.Turn n t) (hu : Pm.Turn n u) (n1 : 1 ≤ n) (n9 : n ≤ 9) (h : ∀ L M, Pm.Ord n t L → Pm.Ord n u M → L = M) :
    EvV (tOp rEq (tCall (spOrd K) [] E0 (tCons ta tNil)) (tCall (spOrd K) [] E0 (tCons tb tNil))) σ H0 (.bl true) := fun H s Q q =>
  e1 H s _ fun p H1 s1 h1 => ⟨p, t, n, rfl, h1, ht, n1, n9, fun L H2 s2 hL _ => e2 H2 ((s.trans s1).trans s2) _ fun p3 H3 s3 h3 => ⟨p3, u, n, rfl, h3, hu, n1, n9, fun M H4 s4 hM _ => by
    have e := h L M hL hM
    subst e
    refine ⟨rfl, ?_⟩
    rw [decide_eq_true rfl]
    exact q H4 (((s1.trans s2).trans s3).trans s4)⟩⟩
theorem seq_if (e : EvF p σ H0) (s : Same H0 H) (q : ∀ H', Same H H' → us D σ H') : tSeq (tIfS p (tRet (tC (.bl false))) tNext) us D σ H := e H s _ fun H' s' => iteF (q H' s')
theorem seq_asgT {i : Nat} (e : EvT K ta σ H0 t) (s : Same H0 H) (q : ∀ p H2, Same H H2 → SqT K H2 p (nats t) → us D (σ.set i (some (.ref p))) H2) : tSeq (tAsg ta (gName i)) us D σ H := e H s _ q
theorem seq_asgO {i : Nat} (e1 : EvT K ta σ H0 t) (ht : Pm.Turn n t) (n1 : 1 ≤ n) (n9 : n ≤ 9) (s : Same H0 H) (q : ∀ (L : Nat) H2, Same H H2 → Pm.Ord n t L → us D (σ.set i (some (.int (L : Int)))) H2) :
    tSeq (tAsg (tCall (spOrd K) [] E0 (tCons ta tNil)) (gName i)) us D σ H := e1 H s _ fun p H1 s1 h1 => ⟨p, t, n, rfl, h1, ht, n1, n9, fun L H2 s2 hL _ => q L H2 (s1.trans s2) hL⟩
theorem ret_and {v : Bool} (e1 : EvV ta σ H0 (.bl true)) (e2 : EvV tb σ H0 (.bl v)) (hv : v = true) (s : Same H0 H) (q : ∀ H', Same H H' → D.rt (.bl true) H') : tRet (tAndV ta tb) D σ H := by
  subst hv
  exact e1 H s _ fun H1 s1 => ⟨true, rfl, iteT (e2 H1 (s.trans s1) _ fun H2 s2 => q H2 (s1.trans s2))⟩
end
end K40

set_option Elab.async false
set_option linter.all false
set_option maxRecDepth 100000
set_option maxHeartbeats 6400000
namespace K40
open PySem L2 Tx Tg Tm
abbrev nRight : List Str := ["_law_cup_here", "_law_points", "_law_turn", "_law_one", "_law_other", "_law_last", "_law_both", "_law_still", "_law_spot", "_law_back", "_law_much"]
/-- what it calls -/
structure Up (P : Program) (w : World) (K : PySem.W.Frag) (mg : Str → Option Value) (base : Heap) (fB fA fL fK fT fJ fU fO : Addr) (dB dA dL dK dT dJ dU dO : FuncData) : Prop where
  DB : Df K mg "_law_bit" sBit ["_law_cup_here", "_law_much"] fB dB
  DA : Df K mg "_law_any_turn" sAny ["_law_cup_here", "_law_points"] fA dA
  DL : Df K mg "_law_led_on" sLedOn ["_law_turn", "_law_other"] fL dL
  DK : Df K mg "_law_led_back" sLedBack ["_law_turn"] fK dK
  DT : Df K mg "_law_times_round" sTimes ["_law_turn"] fT dT
  DJ : Df K mg "joint" sJ ["one", "other"] fJ dJ
  DU : Df K mg "undone_turn" sU ["turn"] fU dU
  DO : Df K mg "turn_order" sO ["turn"] fO dO
  bi : FnOk P w K mg base CX0 1 fB dB ["_law_cup_here", "_law_much"] spBit
  an : FnOk P w K mg base CX0 3 fA dA ["_law_cup_here", "_law_points"] spAny
  gl : FnOk P w K mg base CX0 1 fL dL ["_law_turn", "_law_other"] (spJ2 K)
  gb : FnOk P w K mg base CX0 1 fK dK ["_law_turn"] (spLedBack K)
  gt : FnOk P w K mg base CX0 2 fT dT ["_law_turn"] (spTimes K)
  gj : FnOk P w K mg base CX0 5 fJ dJ ["one", "other"] (spJ K)
  gu : FnOk P w K mg base CX0 5 fU dU ["turn"] (spU K)
  go : FnOk P w K mg base CX0 5 fO dO ["turn"] (spOrd K)
def spRight : Sp := fun vs H Q _ => ∃ c : Addr, vs = [.ref c] ∧ Cup H c ∧ ∀ H', But c H H' → Cup H' c → Q (.bl true) H'
theorem scRight : FnScope nRight ["_law_cup_here"] (defScope sRight) := ⟨rfl, rfl, rfl, by decide +kernel, rfl, by decide +kernel, by decide +kernel⟩
section
variable {P : Program} {w : World} {K : PySem.W.Frag} {mg : Str → Option Value} {base : Heap}
theorem nat500 {k : Nat} (h : k ≤ 2 ^ 7) : k < 2 ^ 9000 := nat9 h
theorem ok_right {f fB fA fL fK fT fJ fU fO : Addr} {fd dB dA dL dK dT dJ dU dO : FuncData} (F : Fun K "_law_right" "_law_right" sRight f fd) (T : Txt K mg) (G : Up P w K mg base fB fA fL fK fT fJ fU fO dB dA dL dK dT dJ dU dO) :
    Kept P w K mg base CX0 6 f fd ["_law_cup_here"] spRight := by
  refine Kept.fn F scRight (fun vs H Q E h => ?_) (fun cdv A outer s H vs Q E hr still h => ?_)
  · obtain ⟨c, rfl, _⟩ := h
    rfl
  · obtain ⟨c, rfl, hc, q⟩ := h
    have r1 : Room 1 _ := hr.mono (by decide)
    have r2 : Room 2 _ := hr.mono (by decide)
    have r3 : Room 3 _ := hr.mono (by decide)
    have r5 : Room 5 _ := hr
    refine ⟨_, (pss_cons (ps_set (i := 1) scRight.nd rfl (Or.inr rfl) (pe_op op_add pe_int (pe_call G.bi r1 (by rfl) G.DB.m G.DB.F.kp G.DB.b .nil pass0 (pa_cons (pv 0) (pa_cons pe_int pa_nil)))))
      (pss_cons (ps_asg (pe_lc (own := [("_law_turn", 2)]) (g := gName 2) (tt := tYes) rfl scRight.nd (pi_range1 rfl T.range (pa_cons pe_int pa_nil)) (blkOk_by (own := [("_law_turn", 2)]) (N := nRight) (sc := defScope sRight) (by decide +kernel)) (fun _ _ _ _ _ => pg_name (i := 2) scRight.nd rfl (Or.inl rfl)) (fun _ _ _ _ _ => pts_nil) (fun _ _ _ _ _ => (pe_call G.an r3 (by rfl) G.DA.m G.DA.F.kp G.DA.b .nil pass0 (pa_cons (pv 0) (pa_cons (pv 1) pa_nil))))) (pg_lst rfl (pgs_cons (pg_name (i := 3) scRight.nd rfl (Or.inr rfl)) (pgs_cons (pg_name (i := 4) scRight.nd rfl (Or.inr rfl)) (pgs_cons (pg_name (i := 5) scRight.nd rfl (Or.inl rfl)) pgs_nil)))))
      (pss_cons (ps_asg (pe_tup (pa_cons (pe_call G.gj r5 (by rfl) G.DJ.m G.DJ.F.kp G.DJ.b .nil pass0 (pa_cons (pv 3) (pa_cons (pv 4) pa_nil))) (pa_cons (pe_tupRg rfl (by rfl) T.tuple (prg_1 (by rfl) T.range (pv 1))) pa_nil))) (pg_tup rfl (pgs_cons (pg_name (i := 6) scRight.nd rfl (Or.inr rfl)) (pgs_cons (pg_name (i := 7) scRight.nd rfl (Or.inl rfl)) pgs_nil))))
      (pss_cons (ps_if (PW.pt (pw_or (pt_cmpR op_ne (pe_callB (call_show still hr.units) (by rfl) T.repr (by decide +kernel) (pa_cons (pv 6) pa_nil)) (pe_callB (call_show still hr.units) (by rfl) T.repr (by decide +kernel) (pa_cons (pe_call G.gl r1 (by rfl) G.DL.m G.DL.F.kp G.DL.b .nil pass0 (pa_cons (pv 3) (pa_cons (pv 4) pa_nil))) pa_nil)) (nomark _)) (pw_or1 (pt_cmpR (op_neD hr.units) (pe_call G.gj r5 (by rfl) G.DJ.m G.DJ.F.kp G.DJ.b .nil pass0 (pa_cons (pv 6) (pa_cons (pv 5) pa_nil))) (pe_call G.gj r5 (by rfl) G.DJ.m G.DJ.F.kp G.DJ.b .nil pass0 (pa_cons (pv 3) (pa_cons (pe_call G.gj r5 (by rfl) G.DJ.m G.DJ.F.kp G.DJ.b .nil pass0 (pa_cons (pv 4) (pa_cons (pv 5) pa_nil))) pa_nil))) (nomark _))))) (pss_one (ps_ret pe_bl)) pss_nil)
      (pss_cons (ps_if (pt_cmpR (op_neD hr.units) (pe_lc (own := [("_law_spot", 8)]) (g := gName 8) (tt := tTest (tOp rNe (tOp (rIxT K) (tVar 6) (tVar 8)) (tOp (rIxT K) (tVar 4) (tOp (rIxT K) (tVar 3) (tVar 8))))) rfl scRight.nd (pi_range1 rfl T.range (pa_cons (pv 1) pa_nil)) (blkOk_by (own := [("_law_spot", 8)]) (N := nRight) (sc := defScope sRight) (by decide +kernel)) (fun _ _ _ _ _ => pg_name (i := 8) scRight.nd rfl (Or.inl rfl)) (fun _ _ _ _ _ => pts_one (pt_cmpR op_ne (pe_ix ix_tup (pv 6) (pv 8) (fun _ _ => rfl)) (pe_ix ix_tup (pv 4) (pe_ix ix_tup (pv 3) (pv 8) (fun _ _ => rfl)) (fun _ _ => rfl)) (nomark _))) (fun _ _ _ _ _ => pv 8)) (pe_lst pa_nil) (nomark _)) (pss_one (ps_ret pe_bl)) pss_nil)
      (pss_cons (ps_set (i := 9) scRight.nd rfl (Or.inl rfl) (pe_call G.gu r5 (by rfl) G.DU.m G.DU.F.kp G.DU.b .nil pass0 (pa_cons (pv 3) pa_nil)))
      (pss_cons (ps_if (PW.pt (pw_or (pt_cmpR op_ne (pe_callB (call_show still hr.units) (by rfl) T.repr (by decide +kernel) (pa_cons (pv 9) pa_nil)) (pe_callB (call_show still hr.units) (by rfl) T.repr (by decide +kernel) (pa_cons (pe_call G.gb r1 (by rfl) G.DK.m G.DK.F.kp G.DK.b .nil pass0 (pa_cons (pv 3) pa_nil)) pa_nil)) (nomark _)) (pw_or (pt_cmpR (op_neD hr.units) (pe_call G.gj r5 (by rfl) G.DJ.m G.DJ.F.kp G.DJ.b .nil pass0 (pa_cons (pv 3) (pa_cons (pv 9) pa_nil))) (pv 7) (nomark _)) (pw_or (pt_cmpR (op_neD hr.units) (pe_call G.gj r5 (by rfl) G.DJ.m G.DJ.F.kp G.DJ.b .nil pass0 (pa_cons (pv 9) (pa_cons (pv 3) pa_nil))) (pv 7) (nomark _)) (pw_or1 (pt_cmpR (op_neD hr.units) (pe_call G.gu r5 (by rfl) G.DU.m G.DU.F.kp G.DU.b .nil pass0 (pa_cons (pv 9) pa_nil)) (pv 3) (nomark _))))))) (pss_one (ps_ret pe_bl)) pss_nil)
      (pss_cons (ps_if (PW.pt (pw_or (pt_cmpR (op_neD hr.units) (pe_call G.gu r5 (by rfl) G.DU.m G.DU.F.kp G.DU.b .nil pass0 (pa_cons (pv 6) pa_nil)) (pe_call G.gj r5 (by rfl) G.DJ.m G.DJ.F.kp G.DJ.b .nil pass0 (pa_cons (pe_call G.gu r5 (by rfl) G.DU.m G.DU.F.kp G.DU.b .nil pass0 (pa_cons (pv 4) pa_nil)) (pa_cons (pv 9) pa_nil))) (nomark _)) (pw_or (pt_cmpR (op_neD hr.units) (pe_call G.gj r5 (by rfl) G.DJ.m G.DJ.F.kp G.DJ.b .nil pass0 (pa_cons (pv 3) (pa_cons (pv 7) pa_nil))) (pv 3) (nomark _)) (pw_or1 (pt_cmpR (op_neD hr.units) (pe_call G.gj r5 (by rfl) G.DJ.m G.DJ.F.kp G.DJ.b .nil pass0 (pa_cons (pv 7) (pa_cons (pv 3) pa_nil))) (pv 3) (nomark _)))))) (pss_one (ps_ret pe_bl)) pss_nil)
      (pss_cons (ps_set (i := 10) scRight.nd rfl (Or.inl rfl) (pe_call G.go r5 (by rfl) G.DO.m G.DO.F.kp G.DO.b .nil pass0 (pa_cons (pv 3) pa_nil)))
      (pss_cons (ps_if (PW.pt (pw_or (pt_cmpR op_ne (pv 10) (pe_call G.gt r2 (by rfl) G.DT.m G.DT.F.kp G.DT.b .nil pass0 (pa_cons (pv 3) pa_nil)) (nomark _)) (pw_or (pt_cmpR op_ne (pe_call G.go r5 (by rfl) G.DO.m G.DO.F.kp G.DO.b .nil pass0 (pa_cons (pv 9) pa_nil)) (pv 10) (nomark _)) (pw_or1 (pt_cmpR op_ne (pe_call G.go r5 (by rfl) G.DO.m G.DO.F.kp G.DO.b .nil pass0 (pa_cons (pe_call G.gj r5 (by rfl) G.DJ.m G.DJ.F.kp G.DJ.b .nil pass0 (pa_cons (pe_call G.gj r5 (by rfl) G.DJ.m G.DJ.F.kp G.DJ.b .nil pass0 (pa_cons (pe_call G.gu r5 (by rfl) G.DU.m G.DU.F.kp G.DU.b .nil pass0 (pa_cons (pv 4) pa_nil)) (pa_cons (pv 3) pa_nil))) (pa_cons (pv 4) pa_nil))) pa_nil)) (pv 10) (nomark _)))))) (pss_one (ps_ret pe_bl)) pss_nil)
      (pss_one (ps_ret (pe_and (pe_cmpR op_eq (pe_call G.go r5 (by rfl) G.DO.m G.DO.F.kp G.DO.b .nil pass0 (pa_cons (pe_call G.gj r5 (by rfl) G.DJ.m G.DJ.F.kp G.DJ.b .nil pass0 (pa_cons (pv 4) (pa_cons (pv 3) pa_nil))) pa_nil)) (pe_call G.go r5 (by rfl) G.DO.m G.DO.F.kp G.DO.b .nil pass0 (pa_cons (pv 6) pa_nil)) (nomark _)) (pe_one (pe_cmpR op_eq (pe_cmpR op_eq (pv 10) pe_int (nomark _)) (pe_cmpR (op_eqD hr.units) (pv 3) (pv 7) (nomark _)) (nomark _)))))))))))))))), ?_⟩
    refine ⟨_, rfl, c, 9, rfl, hc, by decide, nat9 (by decide), fun r H1 r0 r9 hc1 b1 => ?_⟩
    obtain ⟨m, rfl⟩ : ∃ k : Nat, r = (k : Int) := ⟨r.toNat, by omega⟩
    refine ⟨_, _, rfl, rfl, ?_⟩
    have e1 : (fun i j : Int => V.int (i + j)) 1 (m : Int) = V.int ((m + 1 : Nat) : Int) := congrArg V.int (by omega)
    rw [e1]
    clear e1
    have n1 : 1 ≤ m + 1 := Nat.succ_le_succ (Nat.zero_le m)
    have n9 : m + 1 ≤ 9 := by omega
    generalize m + 1 = n at n1 n9 ⊢
    refine ⟨3, rfl, by decide, by decide, fun D hD => ?_⟩
    have nDc : D ≠ c := hc1.ne hD
    refine lc_range (lo := 0) (n := 3) (fun i H2 => Cup H2 c ∧ But c H1 H2 ∧ ∃ (as : List Addr) (ts : List (List Nat)), H2 D = some (.lst (as.map V.ref)) ∧ PySem.W.EachIs (fun a t => FrzT H2 a (nats t) ∧ Pm.Turn n t) as ts ∧ ts.length = i)
      ⟨hc1.same (same_upd hD), But.of (same_upd hD), [], [], upd_same, .nil, rfl⟩ ?_ ?_
    · rintro i H2 hi ⟨hc2, b2, as, ts, e2, hz, hl⟩
      refine ⟨rfl, iteT (B := False) ?_⟩
      refine ⟨_, rfl, _, rfl, c, n, rfl, hc2, n9, fun p H3 t hc3 b3 hp ht => ?_⟩
      have e3 := b3 D _ nDc e2
      have hzl : as.length = ts.length := hz.length
      have frz : ∀ {a : Addr} {xs : List V}, FrzT H3 a xs → FrzT (upd H3 D (.lst (as.map V.ref ++ [.ref p]))) a xs := by
        rintro a xs ⟨o, e, d⟩
        refine ⟨o, ?_, d⟩
        rw [upd_ne (fun z => by rw [z, e3] at e; cases e)]
        exact e
      refine ⟨as.map V.ref, e3, ?_, ?_, ?_, as ++ [p], ts ++ [t], ?_, ?_, by rw [List.length_append, hl]; rfl⟩
      · rw [List.length_map, hzl, hl]
        exact Nat.lt_of_lt_of_le (show i < 3 by omega) (by decide)
      · obtain ⟨c0, c1, c2, ec⟩ := hc3
        exact ⟨c0, c1, c2, by rw [upd_ne nDc.symm]; exact ec⟩
      · intro b o n' e
        rw [upd_ne (ne_of_none e hD)]
        exact b3 _ _ n' (b2 _ _ n' e)
      · rw [upd_same, List.map_append]
        rfl
      · refine each_snoc (hz.mono fun a t h => ⟨?_, h.2⟩) ⟨frz hp, ht⟩
        obtain ⟨⟨o, e, d⟩, _⟩ := h
        refine frz ⟨o, b3 _ _ (fun z => ?_) e, d⟩
        obtain ⟨c0, c1, c2, ec⟩ := hc2
        rw [z, ec] at e
        cases e
    · rintro H2 ⟨hc2, b2, as, ts, e2, hz, hl⟩
      obtain ⟨t1, t2, t3, rfl⟩ : ∃ t1 t2 t3, ts = [t1, t2, t3] := match ts, hl with | [x, y, z], _ => ⟨x, y, z, rfl⟩
      obtain ⟨a1, a2, a3, rfl, ⟨z1, h1⟩, ⟨z2, h2⟩, ⟨z3, h3⟩⟩ : ∃ a1 a2 a3, as = [a1, a2, a3] ∧ (FrzT H2 a1 (nats t1) ∧ Pm.Turn n t1) ∧ (FrzT H2 a2 (nats t2) ∧ Pm.Turn n t2) ∧ (FrzT H2 a3 (nats t3) ∧ Pm.Turn n t3) := by
        cases hz with
        | cons r1 t =>
          cases t with
          | cons r2 t =>
            cases t with
            | cons r3 t =>
              cases t
              exact ⟨_, _, _, rfl, r1, r2, r3⟩
      refine ⟨D, _, rfl, SqL.of e2, rfl, _, _, rfl, _, _, rfl, _, _, rfl, rfl, ?_⟩
      have hj := Pm.turn_joint h1 h2
      have hu := Pm.turn_undone h1
      have hu2 := Pm.turn_undone h2
      have hst := Pm.still_turn (n := n)
      refine et_joint (K := K) (H0 := H2) (t := t1) (u := t2) (et_var rfl z1.sqt) (et_var rfl z2.sqt) h1 h2 n1 n9 H2 (Same.refl H2) _ fun pb H3 s3 hb => ?_
      refine ⟨_, rfl, _, rfl, RgOk.of_le (Int.le_refl 0) (by omega) (by decide) (by omega), fun ps nps => ?_⟩
      rw [rg_nats]
      have s4 := same_upd (o := .tup (nats (List.range n))) nps
      have hs4 : SqT K (upd H3 ps (.tup (nats (List.range n)))) ps (nats (List.range n)) := SqT.of upd_same
      generalize upd H3 ps (.tup (nats (List.range n))) = H4 at s4 hs4 ⊢
      refine ⟨by show 2 ≤ sizeLine; decide, fun pt npt => ?_⟩
      have s5 := same_upd (o := .tup [.ref pb, .ref ps]) npt
      refine ⟨pt, _, rfl, SqT.of upd_same, rfl, _, _, rfl, _, _, rfl, rfl, ?_⟩
      have y1 := z1.same ((s3.trans s4).trans s5)
      have y2 := z2.same ((s3.trans s4).trans s5)
      have y3 := z3.same ((s3.trans s4).trans s5)
      have yb := sqt_same (s4.trans s5) hb
      have ys := sqt_same s5 hs4
      have hc5 := hc2.same ((s3.trans s4).trans s5)
      have b5 := ((b1.trans b2).trans (But.of ((s3.trans s4).trans s5)))
      generalize upd H4 pt (.tup [.ref pb, .ref ps]) = H5 at y1 y2 y3 yb ys hc5 b5 ⊢
      show tSeq _ _ _ [some (.ref c), some (.int (n : Int)), none, some (.ref a1), some (.ref a2), some (.ref a3), some (.ref pb), some (.ref ps), none, none, none] H5
      have w3 : ∀ x9 x10, EvT K (tVar 3) [some (.ref c), some (.int (n : Int)), none, some (.ref a1), some (.ref a2), some (.ref a3), some (.ref pb), some (.ref ps), none, x9, x10] H5 t1 := fun _ _ => et_var rfl y1.sqt
      have w4 : ∀ x9 x10, EvT K (tVar 4) [some (.ref c), some (.int (n : Int)), none, some (.ref a1), some (.ref a2), some (.ref a3), some (.ref pb), some (.ref ps), none, x9, x10] H5 t2 := fun _ _ => et_var rfl y2.sqt
      have w5 : ∀ x9 x10, EvT K (tVar 5) [some (.ref c), some (.int (n : Int)), none, some (.ref a1), some (.ref a2), some (.ref a3), some (.ref pb), some (.ref ps), none, x9, x10] H5 t3 := fun _ _ => et_var rfl y3.sqt
      have w6 : ∀ x9 x10, EvT K (tVar 6) [some (.ref c), some (.int (n : Int)), none, some (.ref a1), some (.ref a2), some (.ref a3), some (.ref pb), some (.ref ps), none, x9, x10] H5 (Pm.joint t1 t2) := fun _ _ => et_var rfl yb
      have w7 : ∀ x9 x10, EvT K (tVar 7) [some (.ref c), some (.int (n : Int)), none, some (.ref a1), some (.ref a2), some (.ref a3), some (.ref pb), some (.ref ps), none, x9, x10] H5 (List.range n) := fun _ _ => et_var rfl ys
      have C0 := ef_or (ef_ne (ev_show (w6 none none) hj n9) (ev_show (et_ledon (w3 none none) (w4 none none) h1 h2 n9) hj n9) rfl) (ef_neT (et_joint (w6 none none) (w5 none none) hj h3 n1 n9) (et_joint (w3 none none) (et_joint (w4 none none) (w5 none none) h2 h3 n1 n9) h1 (Pm.turn_joint h2 h3) n1 n9) (Pm.joint_assoc h1 h2))
      refine seq_if C0 (Same.refl H5) fun H6 s6 => ?_
      clear C0
      have C1 : EvF (tTest (tOp (rNeD K) (tLc (iRng1 (tCons (tVar 1) tNil)) (gName 8) (tTest (tOp rNe (tOp (rIxT K) (tVar 6) (tVar 8)) (tOp (rIxT K) (tVar 4) (tOp (rIxT K) (tVar 3) (tVar 8))))) (tVar 8) [8]) (tLst tNil)))
          [some (.ref c), some (.int (n : Int)), none, some (.ref a1), some (.ref a2), some (.ref a3), some (.ref pb), some (.ref ps), none, none, none] H5 := by
        intro H s D q
        refine ⟨_, rfl, (n : Int), rfl, by omega, by omega, fun D2 hD => ?_⟩
        rw [Int.toNat_natCast]
        refine lc_range (lo := 0) (n := n) (fun i H2 => Same H H2 ∧ H2 D2 = some (.lst [])) ⟨same_upd hD, upd_same⟩ ?_ ?_
        · rintro i H2 hi ⟨s2, e2⟩
          rw [Int.zero_add]
          have s02 := s.trans s2
          have i1 : i < t1.length := by rw [h1.len]; exact hi
          have i2 : Pm.to t1 i < t2.length := by rw [h2.len]; exact h1.lt hi
          have i3 : i < (Pm.joint t1 t2).length := by rw [Pm.joint_len]; exact i1
          refine ⟨rfl, ?_⟩
          refine ⟨_, rfl, _, rfl, pb, nats (Pm.joint t1 t2), (i : Int), .int (Pm.to (Pm.joint t1 t2) i : Int), rfl, rfl, sqt_same s02 yb, nats_to i3, ?_⟩
          refine ⟨_, rfl, _, rfl, _, rfl, a1, nats t1, (i : Int), .int (Pm.to t1 i : Int), rfl, rfl, sqt_same s02 y1.sqt, nats_to i1, a2, nats t2, (Pm.to t1 i : Int), .int (Pm.to t2 (Pm.to t1 i) : Int), rfl, rfl, sqt_same s02 y2.sqt, nats_to i2, ?_⟩
          refine ⟨rfl, _, rfl, ?_⟩
          rw [Pm.to_joint i1, decide_eq_true rfl]
          exact iteF ⟨s2, e2⟩
        · rintro H2 ⟨s2, e2⟩
          refine ⟨Nat.zero_le _, fun p2 np2 => ?_⟩
          refine ⟨.list (natsD []), .list (natsD []), .lst (SqL.of ((same_upd np2) _ _ e2)) (nats_all K _ []), .lst (SqL.of upd_same) (nats_all K _ []), shaped_lst [], shaped_lst [], _, rfl, ?_⟩
          rw [eq_lst]
          exact q _ (s2.trans (same_upd np2))
      refine seq_if C1 s6 fun H7 s7 => ?_
      clear C1
      have s57 := s6.trans s7
      refine seq_asgT (et_undone (w3 none none) h1 n1 n9) s57 fun p9 H8 s8 h9 => ?_
      show tSeq _ _ _ [some (.ref c), some (.int (n : Int)), none, some (.ref a1), some (.ref a2), some (.ref a3), some (.ref pb), some (.ref ps), none, some (.ref p9), none] H8
      have s58 := s57.trans s8
      have v3 : ∀ x10, EvT K (tVar 3) [some (.ref c), some (.int (n : Int)), none, some (.ref a1), some (.ref a2), some (.ref a3), some (.ref pb), some (.ref ps), none, some (.ref p9), x10] H8 t1 := fun _ => (w3 _ _).later s58
      have v4 : ∀ x10, EvT K (tVar 4) [some (.ref c), some (.int (n : Int)), none, some (.ref a1), some (.ref a2), some (.ref a3), some (.ref pb), some (.ref ps), none, some (.ref p9), x10] H8 t2 := fun _ => (w4 _ _).later s58
      have v6 : ∀ x10, EvT K (tVar 6) [some (.ref c), some (.int (n : Int)), none, some (.ref a1), some (.ref a2), some (.ref a3), some (.ref pb), some (.ref ps), none, some (.ref p9), x10] H8 (Pm.joint t1 t2) := fun _ => (w6 _ _).later s58
      have v7 : ∀ x10, EvT K (tVar 7) [some (.ref c), some (.int (n : Int)), none, some (.ref a1), some (.ref a2), some (.ref a3), some (.ref pb), some (.ref ps), none, some (.ref p9), x10] H8 (List.range n) := fun _ => (w7 _ _).later s58
      have v9 : ∀ x10, EvT K (tVar 9) [some (.ref c), some (.int (n : Int)), none, some (.ref a1), some (.ref a2), some (.ref a3), some (.ref pb), some (.ref ps), none, some (.ref p9), x10] H8 (Pm.undone t1) := fun _ => et_var rfl h9
      have vz : EvZ (tVar 3) [some (.ref c), some (.int (n : Int)), none, some (.ref a1), some (.ref a2), some (.ref a3), some (.ref pb), some (.ref ps), none, some (.ref p9), none] H8 t1 := ez_var rfl (y1.same s58)
      have C2 := ef_or (ef_ne (ev_show (v9 none) hu n9) (ev_show (et_ledback (K := K) vz h1 n9) hu n9) rfl) (ef_or (ef_neT (et_joint (v3 none) (v9 none) h1 hu n1 n9) (v7 none) (Pm.joint_undone h1)) (ef_or (ef_neT (et_joint (v9 none) (v3 none) hu h1 n1 n9) (v7 none) (Pm.undone_joint h1)) (ef_neT (et_undone (v9 none) hu n1 n9) (v3 none) (Pm.undone_undone h1))))
      refine seq_if C2 (Same.refl H8) fun H9 s9 => ?_
      clear C2
      have C3 := ef_or (ef_neT (et_undone (v6 none) hj n1 n9) (et_joint (et_undone (v4 none) h2 n1 n9) (v9 none) hu2 hu n1 n9) (Pm.undone_of_joint h1 h2)) (ef_or (ef_neT (et_joint (v3 none) (v7 none) h1 hst n1 n9) (v3 none) (Pm.joint_still h1)) (ef_neT (et_joint (v7 none) (v3 none) hst h1 n1 n9) (v3 none) (Pm.still_joint h1)))
      refine seq_if C3 s9 fun H10 s10 => ?_
      clear C3
      have s810 := s9.trans s10
      refine seq_asgO (v3 none) h1 n1 n9 s810 fun L H11 s11 hO => ?_
      show tSeq _ _ _ [some (.ref c), some (.int (n : Int)), none, some (.ref a1), some (.ref a2), some (.ref a3), some (.ref pb), some (.ref ps), none, some (.ref p9), some (.int (L : Int))] H11
      have s811 := s810.trans s11
      have hx := Pm.turn_joint (Pm.turn_joint hu2 h1) h2
      have hO2 : Pm.Ord n (Pm.joint (Pm.joint (Pm.undone t2) t1) t2) L := Pm.ord_conj h1 hx h2 (fun p hp => by
        have hq := h2.lt hp
        rw [Pm.to_joint (by rw [(Pm.turn_joint hu2 h1).len]; exact hq), Pm.to_joint (by rw [hu2.len]; exact hq), Pm.to_undone h2 hq, Pm.idx_to h2 hp]) hO
      have C4 := ef_or (ef_ne (ev_var (i := 10) rfl) (ev_times (v3 (some (.int (L : Int)))) h1 n9 hO) rfl) (ef_or (ef_ne (ev_order (v9 (some (.int (L : Int)))) hu n1 n9 (Pm.ord_undone h1 hO)) (ev_var (i := 10) rfl) rfl)
        (ef_ne (ev_order (et_joint (et_joint (et_undone (v4 (some (.int (L : Int)))) h2 n1 n9) (v3 _) hu2 h1 n1 n9) (v4 _) (Pm.turn_joint hu2 h1) h2 n1 n9) hx n1 n9 hO2) (ev_var (i := 10) rfl) rfl))
      refine seq_if C4 s811 fun H12 s12 => ?_
      clear C4
      have s812 := s811.trans s12
      have hord : ∀ L M, Pm.Ord n (Pm.joint t2 t1) L → Pm.Ord n (Pm.joint t1 t2) M → L = M := fun L M hL hM => Pm.ord_uniq hL (Pm.ord_conj hj (Pm.turn_joint h2 h1) h1 (fun p hp => by
        rw [Pm.to_joint (by rw [h2.len]; exact h1.lt hp), Pm.to_joint (by rw [h1.len]; exact hp)]) hM)
      have hv : decide (V.bl (decide (V.int (L : Int) = V.int 1)) = V.bl (decide (t1 = List.range n))) = true := decide_eq_true (congrArg V.bl (decide_eq_decide.mpr ⟨fun e => (Pm.ord_one h1 hO).mp (by injection e with e; omega), fun e => by rw [(Pm.ord_one h1 hO).mpr e]; rfl⟩))
      exact ret_and (ev_eqO (et_joint (v4 (some (.int (L : Int)))) (v3 _) h2 h1 n1 n9) (v6 _) (Pm.turn_joint h2 h1) hj n1 n9 hord) (ev_eq (ev_eq (ev_var (i := 10) rfl) ev_c rfl) (ev_eqT (v3 (some (.int (L : Int)))) (v7 _)) rfl) hv s812 fun H13 s13 =>
        q H13 (b5.trans (But.of ((s58.trans s812).trans s13))) (hc5.same ((s58.trans s812).trans s13))
end
end K40

set_option Elab.async false
set_option linter.all false
set_option maxRecDepth 100000
set_option maxHeartbeats 6400000
namespace K40
open PySem L2 Tx Tg Tm
/-! ### readings that give data -/
section
variable (K : PySem.W.Frag)
def EvD (t : TE) (σ : L2.St) (H0 : Hp) (d : PyData) : Prop := ∀ H, Same H0 H → ∀ Q : VK, (∀ v H', Same H H' → (∀ H'', Same H' H'' → Dp K H'' v d) → Q v H') → t σ H Q
def EvDs (t : TA) (σ : L2.St) (H0 : Hp) (ds : List PyData) : Prop := ∀ H, Same H0 H → ∀ Q : List V → Hp → Prop, (∀ xs H', Same H H' → (∀ H'', Same H' H'' → DpAll K H'' xs ds) → Q xs H') → t σ H Q
end
theorem dpAll_len {K : PySem.W.Frag} {H : Hp} : ∀ {xs : List V} {ds : List PyData}, DpAll K H xs ds → xs.length = ds.length
  | _, _, .nil => rfl
  | _, _, .cons _ h => congrArg (· + 1) (dpAll_len h)
section
variable {K : PySem.W.Frag} {σ : L2.St} {H0 H : Hp} {n k : Nat} {t t1 t2 tn : TE} {m : Int} {ta : TA} {d : PyData} {ds : List PyData} {l : List Nat}
theorem ed_T (e : EvT K t σ H0 l) : EvD K t σ H0 (.tuple (natsD l)) := fun H s Q q => e H s _ fun p H1 s1 h1 => q _ H1 s1 fun H2 s2 => .tup (sqt_same s2 h1) (nats_all K _ _)
theorem ed_I (e : EvV t σ H0 (.int m)) : EvD K t σ H0 (.int m) := fun H s Q q => e H s _ fun H1 s1 => q _ H1 s1 fun _ _ => .int _
theorem ed_nil : EvDs K tNil σ H0 [] := fun H s Q q => q [] H (Same.refl H) fun _ _ => .nil
theorem ed_cons (e1 : EvD K t1 σ H0 d) (e2 : EvDs K ta σ H0 ds) : EvDs K (tCons t1 ta) σ H0 (d :: ds) := fun H s Q q => e1 H s _ fun v H1 s1 h1 => e2 H1 (s.trans s1) _ fun xs H2 s2 h2 => q _ H2 (s1.trans s2) fun H3 s3 => .cons (h1 H3 (s2.trans s3)) (h2 H3 s3)
theorem ed_lst (e : EvDs K ta σ H0 ds) (hl : ds.length ≤ 10) : EvD K (tLst ta) σ H0 (.list ds) := fun H s Q q => e H s _ fun xs H1 s1 h1 =>
  ⟨by rw [dpAll_len (h1 H1 (Same.refl H1))]; exact Nat.le_trans hl (by decide), fun p np => q _ _ (s1.trans (same_upd np)) fun H2 s2 => .lst (SqL.of (s2 _ _ upd_same)) (h1 H2 ((same_upd np).trans s2))⟩
theorem seq_asgD {i : Nat} {u : TS} {D : Ends} (e : EvD K t σ H0 d) (s : Same H0 H) (q : ∀ v H2, Same H H2 → (∀ H3, Same H2 H3 → Dp K H3 v d) → u D (σ.set i (some v)) H2) : tSeq (tAsg t (gName i)) u D σ H := e H s _ fun v H1 s1 h1 => q v H1 s1 h1
theorem ed_var {i : Nat} {v : V} (hi : σ[i]? = some (some v)) (hv : ∀ H3, Same H0 H3 → Dp K H3 v d) : EvD K (tVar i) σ H0 d := fun H s Q q => ⟨_, hi, q v H (Same.refl H) fun H2 s2 => hv H2 (s.trans s2)⟩
theorem ret_eq {D : Ends} (s : Same H0 H) (e1 : EvD K t1 σ H0 d) (e2 : EvD K t2 σ H0 d) (h1 : SeqAt.shaped d = true) (h2 : PyData.eqv d d = true) (q : ∀ H', D.rt (.bl true) H') : tRet (tOp (rEqD K) t1 t2) D σ H := by
  refine e1 H s _ fun v1 H1 s1 hv1 => e2 H1 (s.trans s1) _ fun v2 H2 s2 hv2 => ?_
  refine ⟨d, d, hv1 _ s2, hv2 _ (Same.refl _), h1, h1, ?_⟩
  rw [h2]
  exact q H2
theorem et_1 (a : Nat) : EvT K (tTup (tCons (tC (.int (a : Int))) tNil)) σ H0 [a] := fun H s Q q => ⟨(show 1 ≤ sizeLine by decide), fun p np => q p _ (same_upd np) (SqT.of upd_same)⟩
theorem et_3 (a b c : Nat) : EvT K (tTup (tCons (tC (.int (a : Int))) (tCons (tC (.int (b : Int))) (tCons (tC (.int (c : Int))) tNil)))) σ H0 [a, b, c] := fun H s Q q => ⟨(show 3 ≤ sizeLine by decide), fun p np => q p _ (same_upd np) (SqT.of upd_same)⟩
theorem et_5 (a b c d e : Nat) : EvT K (tTup (tCons (tC (.int (a : Int))) (tCons (tC (.int (b : Int))) (tCons (tC (.int (c : Int))) (tCons (tC (.int (d : Int))) (tCons (tC (.int (e : Int))) tNil)))))) σ H0 [a, b, c, d, e] := fun H s Q q => ⟨(show 5 ≤ sizeLine by decide), fun p np => q p _ (same_upd np) (SqT.of upd_same)⟩
end
/-! ### the told values -/
theorem tu3a : Pm.Turn 3 [1, 0, 2] := by unfold Pm.Turn; decide
theorem tu3b : Pm.Turn 3 [0, 2, 1] := by unfold Pm.Turn; decide
theorem tu3c : Pm.Turn 3 [1, 2, 0] := by unfold Pm.Turn; decide
theorem tu5 : Pm.Turn 5 [1, 0, 3, 4, 2] := by unfold Pm.Turn; decide
theorem tu1 : Pm.Turn 1 [0] := by unfold Pm.Turn; decide
theorem per5 : ∀ p < 2, ∀ k < 2, 0 < k → Pm.it [1, 0, 3, 4, 2] k p ≠ p := by decide
theorem per5b : ∀ p < 5, 2 ≤ p → ∀ k < 3, 0 < k → Pm.it [1, 0, 3, 4, 2] k p ≠ p := by decide
theorem ord5 : Pm.Ord 5 [1, 0, 3, 4, 2] 6 := by
  have a0 := fun k => Pm.it_dvd tu5 (show 0 < 5 by decide) (show 0 < 2 by decide) (by decide) (fun k h1 h2 => per5 0 (by decide) k h2 h1) k
  have a1 := fun k => Pm.it_dvd tu5 (show 1 < 5 by decide) (show 0 < 2 by decide) (by decide) (fun k h1 h2 => per5 1 (by decide) k h2 h1) k
  have a2 := fun k => Pm.it_dvd tu5 (show 2 < 5 by decide) (show 0 < 3 by decide) (by decide) (fun k h1 h2 => per5b 2 (by decide) (by decide) k h2 h1) k
  have a3 := fun k => Pm.it_dvd tu5 (show 3 < 5 by decide) (show 0 < 3 by decide) (by decide) (fun k h1 h2 => per5b 3 (by decide) (by decide) k h2 h1) k
  have a4 := fun k => Pm.it_dvd tu5 (show 4 < 5 by decide) (show 0 < 3 by decide) (by decide) (fun k h1 h2 => per5b 4 (by decide) (by decide) k h2 h1) k
  refine ⟨by decide, fun k => ⟨fun h => ?_, fun h p hp => ?_⟩⟩
  · have x0 := (a0 k).mp (h 0 (by decide))
    have x2 := (a2 k).mp (h 2 (by decide))
    omega
  · have d2 : 2 ∣ k := by omega
    have d3 : 3 ∣ k := by omega
    match p, hp with
    | 0, _ => exact (a0 k).mpr d2
    | 1, _ => exact (a1 k).mpr d2
    | 2, _ => exact (a2 k).mpr d3
    | 3, _ => exact (a3 k).mpr d3
    | 4, _ => exact (a4 k).mpr d3
theorem ord1 : Pm.Ord 1 [0] 1 := by
  have a0 := fun k => Pm.it_dvd tu1 (show 0 < 1 by decide) (show 0 < 1 by decide) (by decide) (fun k h1 h2 => by omega) k
  refine ⟨by decide, fun k => ⟨fun h => Nat.one_dvd k, fun h p hp => ?_⟩⟩
  obtain rfl : p = 0 := by omega
  exact (a0 k).mpr h
theorem joint3 : Pm.joint [1, 0, 2] [0, 2, 1] = [2, 0, 1] := by decide
theorem undone3 : Pm.undone [1, 2, 0] = [2, 0, 1] := by decide
abbrev dTold : List PyData := [.tuple (natsD [2, 0, 1]), .tuple (natsD [2, 0, 1]), .int 6, .int 1]
theorem told_sh : SeqAt.shaped (.list dTold) = true := by decide +kernel
theorem told_eq : PyData.eqv (.list dTold) (.list dTold) = true := by decide +kernel
abbrev nLaw : List Str := ["_law_script", "_law_at", "_law_cup_here", "_law_turn", "_law_told"]
def spLaw (K : PySem.W.Frag) : Sp := fun vs H Q _ => ∃ (a : Addr) (ns : List Int), vs = [.ref a] ∧ SqL K H a (ns.map V.int) ∧ ns.length ≤ 63 ∧ ∀ H', Q (.bl true) H'
theorem scLaw : FnScope nLaw ["_law_script"] (defScope sLaw) := ⟨rfl, rfl, rfl, by decide +kernel, rfl, by decide +kernel, by decide +kernel⟩
section
variable {P : Program} {w : World} {K : PySem.W.Frag} {mg : Str → Option Value} {base : Heap}
theorem ok_law {f fC fR fB fA fL fK fT fJ fU fO : Addr} {fd dC dR dB dA dL dK dT dJ dU dO : FuncData} (F : Fun K "law" "law" sLaw f fd) (T : Txt K mg) (G : Up P w K mg base fB fA fL fK fT fJ fU fO dB dA dL dK dT dJ dU dO)
    (GC : FnOk P w K mg base CX0 1 fC dC ["_law_script", "_law_at"] (spCup K)) (GR : Kept P w K mg base CX0 6 fR dR ["_law_cup_here"] spRight) (DC : Df K mg "_law_cup" sCup ["_law_script", "_law_at"] fC dC) (DR : Df K mg "_law_right" sRight ["_law_cup_here"] fR dR) :
    Kept P w K mg base CX0 7 f fd ["_law_script"] (spLaw K) := by
  refine Kept.fn F scLaw (fun vs H Q E h => ?_) (fun cdv A outer s H vs Q E hr still h => ?_)
  · obtain ⟨a, ns, rfl, _⟩ := h
    rfl
  · obtain ⟨a, ns, rfl, hS, hlen, q⟩ := h
    have r1 : Room 1 _ := hr.mono (by decide)
    have r5 : Room 5 _ := hr.mono (by decide)
    refine ⟨_, (pss_cons (ps_for PassesOwn.never rfl (pi_range1 rfl T.range (pa_cons (pe_callB (call_max2 rfl) (by rfl) T.max (by decide +kernel) (pa_cons pe_int (pa_cons (pe_callB (call_min2 rfl) (by rfl) T.min (by decide +kernel) (pa_cons pe_int (pa_cons
          (pe_callB call_len (by rfl) T.len PySem.boot_len (pa_cons (pv 0) pa_nil)) pa_nil))) pa_nil))) pa_nil)) (pg_name (i := 1) scLaw.nd rfl (Or.inl rfl))
        (pss_cons (ps_set (i := 2) scLaw.nd rfl (Or.inl rfl) (pe_call GC r1 (by rfl) DC.m DC.F.kp DC.b .nil pass0 (pa_cons (pv 0) (pa_cons (pv 1) pa_nil))))
        (pss_one (ps_for PassesOwn.never rfl (pi_range1 rfl T.range (pa_cons pe_int pa_nil)) (pg_name (i := 3) scLaw.nd rfl (Or.inl rfl))
          (pss_one (ps_if (pt_not (pt_val (pe_callG GR hr still (by rfl) DR.m DR.F.kp DR.b .nil pass0 (pa_cons (pv 2) pa_nil)))) (pss_one (ps_ret pe_bl)) pss_nil))))))
      (pss_cons (ps_set (i := 4) scLaw.nd rfl (Or.inl rfl) (pe_lst (pa_cons (pe_call G.gj r5 (by rfl) G.DJ.m G.DJ.F.kp G.DJ.b .nil pass0 (pa_cons (pe_tup (pa_cons pe_int (pa_cons pe_int (pa_cons pe_int pa_nil)))) (pa_cons (pe_tup (pa_cons pe_int (pa_cons pe_int (pa_cons pe_int pa_nil)))) pa_nil)))
        (pa_cons (pe_call G.gu r5 (by rfl) G.DU.m G.DU.F.kp G.DU.b .nil pass0 (pa_cons (pe_tup (pa_cons pe_int (pa_cons pe_int (pa_cons pe_int pa_nil)))) pa_nil))
        (pa_cons (pe_call G.go r5 (by rfl) G.DO.m G.DO.F.kp G.DO.b .nil pass0 (pa_cons (pe_tup (pa_cons pe_int (pa_cons pe_int (pa_cons pe_int (pa_cons pe_int (pa_cons pe_int pa_nil)))))) pa_nil))
        (pa_cons (pe_call G.go r5 (by rfl) G.DO.m G.DO.F.kp G.DO.b .nil pass0 (pa_cons (pe_tup (pa_cons pe_int pa_nil)) pa_nil)) pa_nil))))))
      (pss_one (ps_ret (pe_cmpR (op_eqD hr.units) (pv 4) (pe_lst (pa_cons (pe_tup (pa_cons pe_int (pa_cons pe_int (pa_cons pe_int pa_nil)))) (pa_cons (pe_tup (pa_cons pe_int (pa_cons pe_int (pa_cons pe_int pa_nil)))) (pa_cons pe_int (pa_cons pe_int pa_nil))))) (nomark _)))))), ?_⟩
    have bj : ∀ n : Int, 0 ≤ n → n ≤ 63 → (-(2 ^ 62) ≤ (if (if n < 2 then n else 2) > 1 then (if n < 2 then n else 2) else 1) ∧ (if (if n < 2 then n else 2) > 1 then (if n < 2 then n else 2) else 1) < 2 ^ 62) ∧ (if (if n < 2 then n else 2) > 1 then (if n < 2 then n else 2) else (1 : Int)).toNat ≤ 2 := by
      intro n h0 h1
      repeat' split
      all_goals omega
    obtain ⟨⟨bj1, bj2⟩, bj3⟩ := bj ns.length (by omega) (by omega)
    refine ⟨_, rfl, _, ns.length, rfl, .inl ⟨_, hS, by rw [List.length_map]⟩, _, _, rfl, _, _, rfl, _, rfl, bj1, bj2, for_range (n := _) (fun i σ H1 => ∃ u1 u2 u3 : Option V, σ = [some (.ref a), u1, u2, u3, none] ∧ Same H H1)
      ⟨none, none, none, rfl, Same.refl H⟩ ?_ ?_⟩
    · rintro k σ H1 hk ⟨u1, u2, u3, rfl, s1⟩
      have hk3 : k < 2 := Nat.lt_of_lt_of_le hk bj3
      refine ⟨_, rfl, _, rfl, a, ns, k, congrArg (fun z => [V.ref a, V.int z]) (Int.zero_add _), s1.seq hS, hlen, by omega, fun c H2 nc s2 hc2 => ?_⟩
      have nc0 : H c = none := free_none s1 nc
      refine ⟨6, rfl, by decide, by decide, for_range (n := 6) (fun i σ H3 => ∃ v1 v3 : Option V, σ = [some (.ref a), v1, some (.ref c), v3, none] ∧ Same H H3 ∧ Cup H3 c) ⟨_, u3, rfl, s1.trans s2, hc2⟩ ?_ ?_⟩
      · rintro j σ H3 hj ⟨v1, v3, rfl, s3, hc3⟩
        refine ⟨_, rfl, c, rfl, hc3, fun H4 b4 hc4 => ⟨_, rfl, iteF ?_⟩⟩
        exact ⟨_, _, rfl, fun b o e => b4 _ _ (ne_of_none e nc0) (s3 _ _ e), hc4⟩
      · rintro σ H3 ⟨v1, v3, rfl, s3, _⟩
        exact ⟨_, _, _, rfl, s3⟩
    · rintro σ H1 ⟨u1, u2, u3, rfl, s1⟩
      have E1 := ed_lst (K := K) (σ := [some (.ref a), u1, u2, u3, none]) (H0 := H1) (ed_cons (ed_T (et_joint (et_3 1 0 2) (et_3 0 2 1) tu3a tu3b (by decide) (by decide))) (ed_cons (ed_T (et_undone (et_3 1 2 0) tu3c (by decide) (by decide)))
        (ed_cons (ed_I (ev_order (K := K) (et_5 1 0 3 4 2) tu5 (by decide) (by decide) ord5)) (ed_cons (ed_I (ev_order (K := K) (et_1 0) tu1 (by decide) (by decide) ord1)) ed_nil)))) (by decide)
      rw [joint3, undone3] at E1
      refine seq_asgD (i := 4) E1 (Same.refl _) fun v H4 s4 hv => ?_
      clear E1
      have L1 := ed_lst (K := K) (σ := [some (.ref a), u1, u2, u3, some v]) (H0 := H4) (ed_cons (ed_T (et_3 2 0 1)) (ed_cons (ed_T (et_3 2 0 1)) (ed_cons (ed_I (ev_c (x := .int 6))) (ed_cons (ed_I (ev_c (x := .int 1))) ed_nil)))) (by decide)
      exact ret_eq (Same.refl H4) (ed_var rfl hv) L1 told_sh told_eq fun H5 => q H5
end
end K40

set_option Elab.async false
set_option linter.all false
set_option maxRecDepth 100000
set_option maxHeartbeats 6400000
namespace K40
open PySem L2 Tx Tg Tm
theorem df_mk {K : PySem.W.Frag} {h : Heap} {mg : Str → Option Value} {x : Str} {st : Stmt} {ps : List Str} {f : Addr} {oc kV dc pm cd ct : Value} {od an : Option Addr} {sl : Array (Option Value)} (X : K.In h) (G : h.Ns mainGlobals mg)
    (a : PySem.W.nsIn K mainGlobals x = some (some (.ref f))) (l : K.lookup f = some ⟨oc, od, .func (PySem.W.fnOf x x (defArgs st) (defBody st) (defScope st) .none kV dc pm an cd ct), sl⟩)
    (c : PySem.W.codeIn K cd x = true) (k : PySem.W.keepIn K (.ref f) = true)
    (hb : ∀ (kV doc pm : Value) (an : Option Addr) (cdv ct : Value) (us : List Value), us.length = ps.length → bindArgs (PySem.W.fnOf x x (defArgs st) (defBody st) (defScope st) .none kV doc pm an cdv ct) ⟨us, []⟩ = pure (ps.zip us)) :
    Df K mg x st ps f (PySem.W.fnOf x x (defArgs st) (defBody st) (defScope st) .none kV dc pm an cd ct) :=
  have F := fun_mk (st := st) l c k
  ⟨F, PySem.W.mg_of X G a, F.binds hb⟩
theorem all_mk {l : PySem.W.OpenLaw} {w : World} {K : PySem.W.Frag} {h : Heap} {mg : Str → Option Value} {fa : Addr} (X : K.In h) (G : h.Ns mainGlobals mg) (hfa : mg "law" = some (.ref fa))
    (hx : ∃ n t, n = 10 ^ 200 ∧ mg "LEAST_TOO_LONG" = some (.int n t))
    {f1 : Addr} {od1 an1 : Option Addr} {sl1 : Array (Option Value)} {oc1 kV1 dc1 pm1 cd1 ct1 : Value}
    (a1 : PySem.W.nsIn K mainGlobals "is_integer" = some (some (.ref f1))) (l1 : K.lookup f1 = some ⟨oc1, od1, .func (PySem.W.fnOf "is_integer" "is_integer" (defArgs sInt) (defBody sInt) (defScope sInt) .none kV1 dc1 pm1 an1 cd1 ct1), sl1⟩) (c1 : PySem.W.codeIn K cd1 "is_integer" = true) (k1 : PySem.W.keepIn K (.ref f1) = true)
    {f2 : Addr} {od2 an2 : Option Addr} {sl2 : Array (Option Value)} {oc2 kV2 dc2 pm2 cd2 ct2 : Value}
    (a2 : PySem.W.nsIn K mainGlobals "joint_of" = some (some (.ref f2))) (l2 : K.lookup f2 = some ⟨oc2, od2, .func (PySem.W.fnOf "joint_of" "joint_of" (defArgs sJoint) (defBody sJoint) (defScope sJoint) .none kV2 dc2 pm2 an2 cd2 ct2), sl2⟩) (c2 : PySem.W.codeIn K cd2 "joint_of" = true) (k2 : PySem.W.keepIn K (.ref f2) = true)
    {f3 : Addr} {od3 an3 : Option Addr} {sl3 : Array (Option Value)} {oc3 kV3 dc3 pm3 cd3 ct3 : Value}
    (a3 : PySem.W.nsIn K mainGlobals "undone_of" = some (some (.ref f3))) (l3 : K.lookup f3 = some ⟨oc3, od3, .func (PySem.W.fnOf "undone_of" "undone_of" (defArgs sUndoneOf) (defBody sUndoneOf) (defScope sUndoneOf) .none kV3 dc3 pm3 an3 cd3 ct3), sl3⟩) (c3 : PySem.W.codeIn K cd3 "undone_of" = true) (k3 : PySem.W.keepIn K (.ref f3) = true)
    {f4 : Addr} {od4 an4 : Option Addr} {sl4 : Array (Option Value)} {oc4 kV4 dc4 pm4 cd4 ct4 : Value}
    (a4 : PySem.W.nsIn K mainGlobals "cycles_of" = some (some (.ref f4))) (l4 : K.lookup f4 = some ⟨oc4, od4, .func (PySem.W.fnOf "cycles_of" "cycles_of" (defArgs sCycles) (defBody sCycles) (defScope sCycles) .none kV4 dc4 pm4 an4 cd4 ct4), sl4⟩) (c4 : PySem.W.codeIn K cd4 "cycles_of" = true) (k4 : PySem.W.keepIn K (.ref f4) = true)
    {f5 : Addr} {od5 an5 : Option Addr} {sl5 : Array (Option Value)} {oc5 kV5 dc5 pm5 cd5 ct5 : Value}
    (a5 : PySem.W.nsIn K mainGlobals "order_of" = some (some (.ref f5))) (l5 : K.lookup f5 = some ⟨oc5, od5, .func (PySem.W.fnOf "order_of" "order_of" (defArgs sOrderOf) (defBody sOrderOf) (defScope sOrderOf) .none kV5 dc5 pm5 an5 cd5 ct5), sl5⟩) (c5 : PySem.W.codeIn K cd5 "order_of" = true) (k5 : PySem.W.keepIn K (.ref f5) = true)
    {f6 : Addr} {od6 an6 : Option Addr} {sl6 : Array (Option Value)} {oc6 kV6 dc6 pm6 cd6 ct6 : Value}
    (a6 : PySem.W.nsIn K mainGlobals "is_turn_of" = some (some (.ref f6))) (l6 : K.lookup f6 = some ⟨oc6, od6, .func (PySem.W.fnOf "is_turn_of" "is_turn_of" (defArgs sTurnOf) (defBody sTurnOf) (defScope sTurnOf) .none kV6 dc6 pm6 an6 cd6 ct6), sl6⟩) (c6 : PySem.W.codeIn K cd6 "is_turn_of" = true) (k6 : PySem.W.keepIn K (.ref f6) = true)
    {f7 : Addr} {od7 an7 : Option Addr} {sl7 : Array (Option Value)} {oc7 kV7 dc7 pm7 cd7 ct7 : Value}
    (a7 : PySem.W.nsIn K mainGlobals "is_turn" = some (some (.ref f7))) (l7 : K.lookup f7 = some ⟨oc7, od7, .func (PySem.W.fnOf "is_turn" "is_turn" (defArgs sIsTurn) (defBody sIsTurn) (defScope sIsTurn) .none kV7 dc7 pm7 an7 cd7 ct7), sl7⟩) (c7 : PySem.W.codeIn K cd7 "is_turn" = true) (k7 : PySem.W.keepIn K (.ref f7) = true)
    {f8 : Addr} {od8 an8 : Option Addr} {sl8 : Array (Option Value)} {oc8 kV8 dc8 pm8 cd8 ct8 : Value}
    (a8 : PySem.W.nsIn K mainGlobals "joint" = some (some (.ref f8))) (l8 : K.lookup f8 = some ⟨oc8, od8, .func (PySem.W.fnOf "joint" "joint" (defArgs sJ) (defBody sJ) (defScope sJ) .none kV8 dc8 pm8 an8 cd8 ct8), sl8⟩) (c8 : PySem.W.codeIn K cd8 "joint" = true) (k8 : PySem.W.keepIn K (.ref f8) = true)
    {f9 : Addr} {od9 an9 : Option Addr} {sl9 : Array (Option Value)} {oc9 kV9 dc9 pm9 cd9 ct9 : Value}
    (a9 : PySem.W.nsIn K mainGlobals "undone_turn" = some (some (.ref f9))) (l9 : K.lookup f9 = some ⟨oc9, od9, .func (PySem.W.fnOf "undone_turn" "undone_turn" (defArgs sU) (defBody sU) (defScope sU) .none kV9 dc9 pm9 an9 cd9 ct9), sl9⟩) (c9 : PySem.W.codeIn K cd9 "undone_turn" = true) (k9 : PySem.W.keepIn K (.ref f9) = true)
    {f10 : Addr} {od10 an10 : Option Addr} {sl10 : Array (Option Value)} {oc10 kV10 dc10 pm10 cd10 ct10 : Value}
    (a10 : PySem.W.nsIn K mainGlobals "turn_order" = some (some (.ref f10))) (l10 : K.lookup f10 = some ⟨oc10, od10, .func (PySem.W.fnOf "turn_order" "turn_order" (defArgs sO) (defBody sO) (defScope sO) .none kV10 dc10 pm10 an10 cd10 ct10), sl10⟩) (c10 : PySem.W.codeIn K cd10 "turn_order" = true) (k10 : PySem.W.keepIn K (.ref f10) = true)
    {f11 : Addr} {od11 an11 : Option Addr} {sl11 : Array (Option Value)} {oc11 kV11 dc11 pm11 cd11 ct11 : Value}
    (a11 : PySem.W.nsIn K mainGlobals "check_turn" = some (some (.ref f11))) (l11 : K.lookup f11 = some ⟨oc11, od11, .func (PySem.W.fnOf "check_turn" "check_turn" (defArgs sCheck) (defBody sCheck) (defScope sCheck) .none kV11 dc11 pm11 an11 cd11 ct11), sl11⟩) (c11 : PySem.W.codeIn K cd11 "check_turn" = true) (k11 : PySem.W.keepIn K (.ref f11) = true)
    {f12 : Addr} {od12 an12 : Option Addr} {sl12 : Array (Option Value)} {oc12 kV12 dc12 pm12 cd12 ct12 : Value}
    (a12 : PySem.W.nsIn K mainGlobals "_law_led_on" = some (some (.ref f12))) (l12 : K.lookup f12 = some ⟨oc12, od12, .func (PySem.W.fnOf "_law_led_on" "_law_led_on" (defArgs sLedOn) (defBody sLedOn) (defScope sLedOn) .none kV12 dc12 pm12 an12 cd12 ct12), sl12⟩) (c12 : PySem.W.codeIn K cd12 "_law_led_on" = true) (k12 : PySem.W.keepIn K (.ref f12) = true)
    {f13 : Addr} {od13 an13 : Option Addr} {sl13 : Array (Option Value)} {oc13 kV13 dc13 pm13 cd13 ct13 : Value}
    (a13 : PySem.W.nsIn K mainGlobals "_law_led_back" = some (some (.ref f13))) (l13 : K.lookup f13 = some ⟨oc13, od13, .func (PySem.W.fnOf "_law_led_back" "_law_led_back" (defArgs sLedBack) (defBody sLedBack) (defScope sLedBack) .none kV13 dc13 pm13 an13 cd13 ct13), sl13⟩) (c13 : PySem.W.codeIn K cd13 "_law_led_back" = true) (k13 : PySem.W.keepIn K (.ref f13) = true)
    {f14 : Addr} {od14 an14 : Option Addr} {sl14 : Array (Option Value)} {oc14 kV14 dc14 pm14 cd14 ct14 : Value}
    (a14 : PySem.W.nsIn K mainGlobals "_law_stays" = some (some (.ref f14))) (l14 : K.lookup f14 = some ⟨oc14, od14, .func (PySem.W.fnOf "_law_stays" "_law_stays" (defArgs sStays) (defBody sStays) (defScope sStays) .none kV14 dc14 pm14 an14 cd14 ct14), sl14⟩) (c14 : PySem.W.codeIn K cd14 "_law_stays" = true) (k14 : PySem.W.keepIn K (.ref f14) = true)
    {f15 : Addr} {od15 an15 : Option Addr} {sl15 : Array (Option Value)} {oc15 kV15 dc15 pm15 cd15 ct15 : Value}
    (a15 : PySem.W.nsIn K mainGlobals "_law_times_round" = some (some (.ref f15))) (l15 : K.lookup f15 = some ⟨oc15, od15, .func (PySem.W.fnOf "_law_times_round" "_law_times_round" (defArgs sTimes) (defBody sTimes) (defScope sTimes) .none kV15 dc15 pm15 an15 cd15 ct15), sl15⟩) (c15 : PySem.W.codeIn K cd15 "_law_times_round" = true) (k15 : PySem.W.keepIn K (.ref f15) = true)
    {f16 : Addr} {od16 an16 : Option Addr} {sl16 : Array (Option Value)} {oc16 kV16 dc16 pm16 cd16 ct16 : Value}
    (a16 : PySem.W.nsIn K mainGlobals "_law_cup" = some (some (.ref f16))) (l16 : K.lookup f16 = some ⟨oc16, od16, .func (PySem.W.fnOf "_law_cup" "_law_cup" (defArgs sCup) (defBody sCup) (defScope sCup) .none kV16 dc16 pm16 an16 cd16 ct16), sl16⟩) (c16 : PySem.W.codeIn K cd16 "_law_cup" = true) (k16 : PySem.W.keepIn K (.ref f16) = true)
    {f17 : Addr} {od17 an17 : Option Addr} {sl17 : Array (Option Value)} {oc17 kV17 dc17 pm17 cd17 ct17 : Value}
    (a17 : PySem.W.nsIn K mainGlobals "_law_bit" = some (some (.ref f17))) (l17 : K.lookup f17 = some ⟨oc17, od17, .func (PySem.W.fnOf "_law_bit" "_law_bit" (defArgs sBit) (defBody sBit) (defScope sBit) .none kV17 dc17 pm17 an17 cd17 ct17), sl17⟩) (c17 : PySem.W.codeIn K cd17 "_law_bit" = true) (k17 : PySem.W.keepIn K (.ref f17) = true)
    {f18 : Addr} {od18 an18 : Option Addr} {sl18 : Array (Option Value)} {oc18 kV18 dc18 pm18 cd18 ct18 : Value}
    (a18 : PySem.W.nsIn K mainGlobals "_law_dealt" = some (some (.ref f18))) (l18 : K.lookup f18 = some ⟨oc18, od18, .func (PySem.W.fnOf "_law_dealt" "_law_dealt" (defArgs sDealt) (defBody sDealt) (defScope sDealt) .none kV18 dc18 pm18 an18 cd18 ct18), sl18⟩) (c18 : PySem.W.codeIn K cd18 "_law_dealt" = true) (k18 : PySem.W.keepIn K (.ref f18) = true)
    {f19 : Addr} {od19 an19 : Option Addr} {sl19 : Array (Option Value)} {oc19 kV19 dc19 pm19 cd19 ct19 : Value}
    (a19 : PySem.W.nsIn K mainGlobals "_law_any_turn" = some (some (.ref f19))) (l19 : K.lookup f19 = some ⟨oc19, od19, .func (PySem.W.fnOf "_law_any_turn" "_law_any_turn" (defArgs sAny) (defBody sAny) (defScope sAny) .none kV19 dc19 pm19 an19 cd19 ct19), sl19⟩) (c19 : PySem.W.codeIn K cd19 "_law_any_turn" = true) (k19 : PySem.W.keepIn K (.ref f19) = true)
    {f20 : Addr} {od20 an20 : Option Addr} {sl20 : Array (Option Value)} {oc20 kV20 dc20 pm20 cd20 ct20 : Value}
    (a20 : PySem.W.nsIn K mainGlobals "_law_right" = some (some (.ref f20))) (l20 : K.lookup f20 = some ⟨oc20, od20, .func (PySem.W.fnOf "_law_right" "_law_right" (defArgs sRight) (defBody sRight) (defScope sRight) .none kV20 dc20 pm20 an20 cd20 ct20), sl20⟩) (c20 : PySem.W.codeIn K cd20 "_law_right" = true) (k20 : PySem.W.keepIn K (.ref f20) = true)
    {f21 : Addr} {od21 an21 : Option Addr} {sl21 : Array (Option Value)} {oc21 kV21 dc21 pm21 cd21 ct21 : Value}
    (a21 : PySem.W.nsIn K mainGlobals "law" = some (some (.ref f21))) (l21 : K.lookup f21 = some ⟨oc21, od21, .func (PySem.W.fnOf "law" "law" (defArgs sLaw) (defBody sLaw) (defScope sLaw) .none kV21 dc21 pm21 an21 cd21 ct21), sl21⟩) (c21 : PySem.W.codeIn K cd21 "law" = true) (k21 : PySem.W.keepIn K (.ref f21) = true)
    (z1 : PySem.W.nsIn K mainGlobals "isinstance" = some none)
    (z2 : PySem.W.nsIn K mainGlobals "int" = some none)
    (z3 : PySem.W.nsIn K mainGlobals "bool" = some none)
    (z4 : PySem.W.nsIn K mainGlobals "abs" = some none)
    (z5 : PySem.W.nsIn K mainGlobals "len" = some none)
    (z6 : PySem.W.nsIn K mainGlobals "list" = some none)
    (z7 : PySem.W.nsIn K mainGlobals "sorted" = some none)
    (z8 : PySem.W.nsIn K mainGlobals "repr" = some none)
    (z9 : PySem.W.nsIn K mainGlobals "range" = some none)
    (z10 : PySem.W.nsIn K mainGlobals "max" = some none)
    (z11 : PySem.W.nsIn K mainGlobals "min" = some none)
    (z12 : PySem.W.nsIn K mainGlobals "all" = some none)
    (z13 : PySem.W.nsIn K mainGlobals "tuple" = some none)
    (z14 : PySem.W.nsIn K mainGlobals "enumerate" = some none)
    (zL : PySem.W.nsIn K mainGlobals "lcm" = some (some (.builtin "math.lcm")))
    {t1 : Tok} (v1 : PySem.W.nsIn K mainGlobals "MAX_POINTS" = some (some (.int 60 t1))) :
    ∃ fd : FuncData, (∀ (s : Shared) (v : Value), BindsTo s fd ⟨[v], []⟩ [("_law_script", v)]) ∧ ∀ base : Heap, K.In base → base.Ns mainGlobals mg → Kept l.prog w K mg base CX0 7 fa fd ["_law_script"] (spLaw K) := by
  have e := hfa.symm.trans (PySem.W.mg_of X G a21)
  cases e
  obtain ⟨n, t0, en, hx⟩ := hx
  subst en
  have T : Txt K mg := ⟨PySem.W.mg_none_of X G z1, PySem.W.mg_none_of X G z2, PySem.W.mg_none_of X G z3, PySem.W.mg_none_of X G z4, PySem.W.mg_none_of X G z5, PySem.W.mg_none_of X G z6, PySem.W.mg_none_of X G z7, PySem.W.mg_none_of X G z8, PySem.W.mg_none_of X G z9, PySem.W.mg_none_of X G z10, PySem.W.mg_none_of X G z11, PySem.W.mg_none_of X G z12, PySem.W.mg_none_of X G z13, PySem.W.mg_none_of X G z14, ⟨_, hx⟩, ⟨_, PySem.W.mg_of X G v1⟩, PySem.W.mg_of X G zL⟩
  have D1 : Df K mg "is_integer" sInt ["value"] f1 _ := df_mk X G a1 l1 c1 k1 fun _ _ _ _ _ _ us hl => match us, hl with | [_], _ => rfl
  have D2 : Df K mg "joint_of" sJoint ["one", "other"] f2 _ := df_mk X G a2 l2 c2 k2 fun _ _ _ _ _ _ us hl => match us, hl with | [_, _], _ => rfl
  have D3 : Df K mg "undone_of" sUndoneOf ["turn"] f3 _ := df_mk X G a3 l3 c3 k3 fun _ _ _ _ _ _ us hl => match us, hl with | [_], _ => rfl
  have D4 : Df K mg "cycles_of" sCycles ["turn"] f4 _ := df_mk X G a4 l4 c4 k4 fun _ _ _ _ _ _ us hl => match us, hl with | [_], _ => rfl
  have D5 : Df K mg "order_of" sOrderOf ["turn"] f5 _ := df_mk X G a5 l5 c5 k5 fun _ _ _ _ _ _ us hl => match us, hl with | [_], _ => rfl
  have D6 : Df K mg "is_turn_of" sTurnOf ["points", "value"] f6 _ := df_mk X G a6 l6 c6 k6 fun _ _ _ _ _ _ us hl => match us, hl with | [_, _], _ => rfl
  have D7 : Df K mg "is_turn" sIsTurn ["value"] f7 _ := df_mk X G a7 l7 c7 k7 fun _ _ _ _ _ _ us hl => match us, hl with | [_], _ => rfl
  have D8 : Df K mg "joint" sJ ["one", "other"] f8 _ := df_mk X G a8 l8 c8 k8 fun _ _ _ _ _ _ us hl => match us, hl with | [_, _], _ => rfl
  have D9 : Df K mg "undone_turn" sU ["turn"] f9 _ := df_mk X G a9 l9 c9 k9 fun _ _ _ _ _ _ us hl => match us, hl with | [_], _ => rfl
  have D10 : Df K mg "turn_order" sO ["turn"] f10 _ := df_mk X G a10 l10 c10 k10 fun _ _ _ _ _ _ us hl => match us, hl with | [_], _ => rfl
  have D11 : Df K mg "check_turn" sCheck ["value"] f11 _ := df_mk X G a11 l11 c11 k11 fun _ _ _ _ _ _ us hl => match us, hl with | [_], _ => rfl
  have D12 : Df K mg "_law_led_on" sLedOn ["_law_turn", "_law_other"] f12 _ := df_mk X G a12 l12 c12 k12 fun _ _ _ _ _ _ us hl => match us, hl with | [_, _], _ => rfl
  have D13 : Df K mg "_law_led_back" sLedBack ["_law_turn"] f13 _ := df_mk X G a13 l13 c13 k13 fun _ _ _ _ _ _ us hl => match us, hl with | [_], _ => rfl
  have D14 : Df K mg "_law_stays" sStays ["_law_turn"] f14 _ := df_mk X G a14 l14 c14 k14 fun _ _ _ _ _ _ us hl => match us, hl with | [_], _ => rfl
  have D15 : Df K mg "_law_times_round" sTimes ["_law_turn"] f15 _ := df_mk X G a15 l15 c15 k15 fun _ _ _ _ _ _ us hl => match us, hl with | [_], _ => rfl
  have D16 : Df K mg "_law_cup" sCup ["_law_script", "_law_at"] f16 _ := df_mk X G a16 l16 c16 k16 fun _ _ _ _ _ _ us hl => match us, hl with | [_, _], _ => rfl
  have D17 : Df K mg "_law_bit" sBit ["_law_cup_here", "_law_much"] f17 _ := df_mk X G a17 l17 c17 k17 fun _ _ _ _ _ _ us hl => match us, hl with | [_, _], _ => rfl
  have D18 : Df K mg "_law_dealt" sDealt ["_law_cup_here", "_law_items"] f18 _ := df_mk X G a18 l18 c18 k18 fun _ _ _ _ _ _ us hl => match us, hl with | [_, _], _ => rfl
  have D19 : Df K mg "_law_any_turn" sAny ["_law_cup_here", "_law_points"] f19 _ := df_mk X G a19 l19 c19 k19 fun _ _ _ _ _ _ us hl => match us, hl with | [_, _], _ => rfl
  have D20 : Df K mg "_law_right" sRight ["_law_cup_here"] f20 _ := df_mk X G a20 l20 c20 k20 fun _ _ _ _ _ _ us hl => match us, hl with | [_], _ => rfl
  have D21 : Df K mg "law" sLaw ["_law_script"] fa _ := df_mk X G a21 l21 c21 k21 fun _ _ _ _ _ _ us hl => match us, hl with | [_], _ => rfl
  refine ⟨PySem.W.fnOf "law" "law" (defArgs sLaw) (defBody sLaw) (defScope sLaw) .none kV21 dc21 pm21 an21 cd21 ct21, fun s v => .of_eq rfl, fun base _ _ => ?_⟩
  have GL : Low l.prog w K mg base _ _ _ _ _ _ _ _ := ⟨D11, D2, D3, D5, ok_check D11.F T D7 D6 D1, ok_joint D2.F T, ok_undoneof D3.F T, ok_order D5.F T D4⟩
  have GU : Up l.prog w K mg base _ _ _ _ _ _ _ _ _ _ _ _ _ _ _ _ := ⟨D17, D19, D12, D13, D15, D8, D9, D10,
    ok_bit D17.F T, ok_any D19.F T D18 D17, ok_ledon D12.F T, ok_ledback D13.F T, ok_times D15.F T D14 D12, ok_J D8.F T GL, ok_U D9.F T GL, ok_O D10.F T GL⟩
  exact ok_law D21.F T GU (ok_cup D16.F T) (ok_right D20.F T GU) D16 D20
theorem fin {l : PySem.W.OpenLaw} {q : Program} {loose : List Str} {XP : (Str → Option Value) → Heap → Prop} {YP : World → Heap → Prop} {d : DefRec} {K : Params → PySem.W.Frag} (hn : l.most = some 63) (hdf : d.params.defaults = [])
    (hY : ∀ (w : World) (h : Heap), YP w h → (K w.params).In h)
    (F : ∀ (w : World) (mg : Str → Option Value) (fa : Addr) (h : Heap), (K w.params).In h → h.Ns mainGlobals mg → mg d.name = some (.ref fa) → XP mg h →
      ∃ fd : FuncData, (∀ (s : Shared) (u : Value), BindsTo s fd ⟨[u], []⟩ [("_law_script", u)]) ∧ ∀ base : Heap, (K w.params).In base → base.Ns mainGlobals mg → Kept l.prog w (K w.params) mg base CX0 7 fa fd ["_law_script"] (spLaw (K w.params))) :
    PySem.W.WalkO q loose XP YP l.row.toRowW d [] (fun f vs => PySem.call f vs) :=
  Tg.walk (n := 63) (k := 7) (x := "_law_script") (cx := fun _ => CX0) (sp := fun w => spLaw (K w.params)) hn (by decide) hdf ⟨rfl, by decide, by decide⟩ hY F (fun _ _ a ns hl _ hS => ⟨a, ns, rfl, hS, hl, fun _ => rfl⟩) fun _ _ _ _ _ z => z
end K40

set_option Elab.async false
set_option maxRecDepth 100000
open PySem PySem.W PyProof.Rows
set_option maxRecDepth 100000 in
set_option maxHeartbeats 0 in
theorem PySem.Challenge.cw_whatcounts_k40_whole_turns_holds : PySem.Challenge.rw_whatcounts_k40_whole_turns.Holds := by
  w_on; o_law; k_head; (case hw => w_witness2)
  k_fill
  refine K40.fin (l := PySem.Challenge.rw_whatcounts_k40_whole_turns) rfl rfl (fun w h Y => PySem.W.kIn_of Y) ?F
  case F =>
    intro w mg fa h KX G hmg hx
    have hx' : ∃ n t, n = 10 ^ 200 ∧ mg "LEAST_TOO_LONG" = some (.int n t) := by
      obtain ⟨v, e, r⟩ := hx.2.val _ (List.mem_singleton.mpr rfl)
      cases r
      exact ⟨_, _, by decide +kernel, e⟩
    refine' K40.all_mk KX G hmg hx' ?a1 ?l1 ?c1 ?k1 ?a2 ?l2 ?c2 ?k2 ?a3 ?l3 ?c3 ?k3 ?a4 ?l4 ?c4 ?k4 ?a5 ?l5 ?c5 ?k5 ?a6 ?l6 ?c6 ?k6 ?a7 ?l7 ?c7 ?k7 ?a8 ?l8 ?c8 ?k8 ?a9 ?l9 ?c9 ?k9 ?a10 ?l10 ?c10 ?k10 ?a11 ?l11 ?c11 ?k11 ?a12 ?l12 ?c12 ?k12 ?a13 ?l13 ?c13 ?k13 ?a14 ?l14 ?c14 ?k14 ?a15 ?l15 ?c15 ?k15 ?a16 ?l16 ?c16 ?k16 ?a17 ?l17 ?c17 ?k17 ?a18 ?l18 ?c18 ?k18 ?a19 ?l19 ?c19 ?k19 ?a20 ?l20 ?c20 ?k20 ?a21 ?l21 ?c21 ?k21 ?z1 ?z2 ?z3 ?z4 ?z5 ?z6 ?z7 ?z8 ?z9 ?z10 ?z11 ?z12 ?z13 ?z14 ?zL ?v1
    (case a1 => k_is)
    (case l1 => k_is)
    (case c1 => k_is)
    (case k1 => k_is)
    (case a2 => k_is)
    (case l2 => k_is)
    (case c2 => k_is)
    (case k2 => k_is)
    (case a3 => k_is)
    (case l3 => k_is)
    (case c3 => k_is)
    (case k3 => k_is)
    (case a4 => k_is)
    (case l4 => k_is)
    (case c4 => k_is)
    (case k4 => k_is)
    (case a5 => k_is)
    (case l5 => k_is)
    (case c5 => k_is)
    (case k5 => k_is)
    (case a6 => k_is)
    (case l6 => k_is)
    (case c6 => k_is)
    (case k6 => k_is)
    (case a7 => k_is)
    (case l7 => k_is)
    (case c7 => k_is)
    (case k7 => k_is)
    (case a8 => k_is)
    (case l8 => k_is)
    (case c8 => k_is)
    (case k8 => k_is)
    (case a9 => k_is)
    (case l9 => k_is)
    (case c9 => k_is)
    (case k9 => k_is)
    (case a10 => k_is)
    (case l10 => k_is)
    (case c10 => k_is)
    (case k10 => k_is)
    (case a11 => k_is)
    (case l11 => k_is)
    (case c11 => k_is)
    (case k11 => k_is)
    (case a12 => k_is)
    (case l12 => k_is)
    (case c12 => k_is)
    (case k12 => k_is)
    (case a13 => k_is)
    (case l13 => k_is)
    (case c13 => k_is)
    (case k13 => k_is)
    (case a14 => k_is)
    (case l14 => k_is)
    (case c14 => k_is)
    (case k14 => k_is)
    (case a15 => k_is)
    (case l15 => k_is)
    (case c15 => k_is)
    (case k15 => k_is)
    (case a16 => k_is)
    (case l16 => k_is)
    (case c16 => k_is)
    (case k16 => k_is)
    (case a17 => k_is)
    (case l17 => k_is)
    (case c17 => k_is)
    (case k17 => k_is)
    (case a18 => k_is)
    (case l18 => k_is)
    (case c18 => k_is)
    (case k18 => k_is)
    (case a19 => k_is)
    (case l19 => k_is)
    (case c19 => k_is)
    (case k19 => k_is)
    (case a20 => k_is)
    (case l20 => k_is)
    (case c20 => k_is)
    (case k20 => k_is)
    (case a21 => k_is)
    (case l21 => k_is)
    (case c21 => k_is)
    (case k21 => k_is)
    (case z1 => k_is)
    (case z2 => k_is)
    (case z3 => k_is)
    (case z4 => k_is)
    (case z5 => k_is)
    (case z6 => k_is)
    (case z7 => k_is)
    (case z8 => k_is)
    (case z9 => k_is)
    (case z10 => k_is)
    (case z11 => k_is)
    (case z12 => k_is)
    (case z13 => k_is)
    (case z14 => k_is)
    (case zL => k_is)
    (case v1 => k_is)

