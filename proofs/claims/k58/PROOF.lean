import PyProof.Rows.All
import Wide.All
import OpenK.AllK
import Wide.FinOn
import HandS.ForMost
import HandS.IsInst
import HandS.Wide
import HandS.Strs
import HandS.SetTxt0
import HandS.Set
import HandS.SetTxtIn
import HandS.Exc
import HandS.TryOnly
import HandS.ExcOwn
import HandS.WordsExc
import PyProof.ReprReads
import PyProof.Rows.StrCut
import HandS.StrMore
import KE.KOpsOwn
import PyProof.InstNe
import KE.KCallOwn
import KE.KOwnIter
import HandS.Iter
import KE.GoesMore
import PyProof.EnumMake
import PyProof.Draws
import PyProof.Rows.SortShell
import HandS.TupAny
import HandS.Conv
import HandS.Defaults
import KE.SortLaws
import HandS.DictComp
import HandS.More
import HandS.New
import HandS.Property
import HandS.ClsMeth
import HandS.FStr
import HandS.RaiseMore
import HandS.Style
import PyProof.ReprLen
import PyProof.FitsInt
import PySem.Challenge.RW_whatcounts_k58_whole_programs_told
set_option Elab.async false
set_option linter.all false
set_option maxRecDepth 100000
set_option maxHeartbeats 3200000
/-! sets of texts: made of a text, sorted -/
namespace Tx
open PySem PySem.Spec PyProof.Rows L2

/-- the text that an entry holds -/
def tx (e : Int × Value) : Str := match e.2 with
  | .str y _ => y
  | _ => Str.empty
/-- an entry of a set of texts -/
def Ent (w : World) (e : Int × Value) : Prop := ∃ y u, e.2 = Value.str y u ∧ e.1 = hashStr w y

/-- at a stands a set whose members are the texts ys, in some order -/
def At (w : World) (h : Heap) (a : Addr) (ys : List Str) : Prop :=
  ∃ (o : Obj) (es : Array (Int × Value)) (ep : Nat) (t : SetTable), h.get? a = some o ∧ o.ExactSet ∧ o.data = .set es ep t ∧
    (∀ e ∈ es.toList, Ent w e) ∧ (es.toList.map tx).Perm ys ∧ es.size < scanBound ∧ t.fits es.size = true ∧
    Ris t.place.toList ∧ (w.params.followText "set-order" = true ∨ t.led = true)

section
variable {P : Program} {w : World} {h h' : Heap} {a : Addr} {ys : List Str}
theorem At.stays (R : At w h a ys) (k : ∀ o, h.get? a = some o → h'.get? a = some o) : At w h' a ys :=
  let ⟨o, es, ep, t, ho, r⟩ := R
  ⟨o, es, ep, t, k o ho, r⟩
theorem Ent.elems {l : List (Int × Value)} (g : ∀ e ∈ l, Ent w e) : ElemsOf (strKind P w) l := by
  intro e he
  obtain ⟨y, u, q1, q2⟩ := g e he
  refine ⟨⟨y, ?_, q2⟩, ?_⟩
  · rw [q1]
    exact Froz.is_str y u
  · rw [q1]
    rfl
theorem Ent.is {e : Int × Value} (g : Ent w e) (k : Str) : (strKind P w).is k e.2 = true ↔ tx e = k := by
  obtain ⟨y, u, q1, _⟩ := g
  unfold tx
  rw [q1]
  constructor
  · intro q
    exact ((strKind P w).inj (.str y u) k y q (Froz.is_str y u)).symm
  · intro q
    subst q
    exact Froz.is_str _ u
theorem Ent.mem {l : List (Int × Value)} (g : ∀ e ∈ l, Ent w e) (k : Str) : k ∈ l.map tx ↔ ∃ e ∈ l, (strKind P w).is k e.2 = true := by
  rw [List.mem_map]
  exact ⟨fun ⟨e, he, q⟩ => ⟨e, he, ((g e he).is k).mpr q⟩, fun ⟨e, he, q⟩ => ⟨e, he, ((g e he).is k).mp q⟩⟩
end

section
variable {P : Program} {w : World} {A : Around} {E : Value → Shared → Prop} {s : Shared} {a : Addr} {ys : List Str}
theorem add_tail {g : Bool → Sem Unit} (hg : ∀ (b : Bool) (z : Shared) (R : Unit → Shared → Prop), R () z → wpAny (model P w) A (g b) R E z)
    {o : Obj} {es : Array (Int × Value)} {ep : Nat} {t : SetTable} (ho : s.heap.get? a = some o) (hx : o.ExactSet) (hd : o.data = .set es ep t)
    {es1 : Array (Int × Value)} {t2 : SetTable} (g1 : ∀ e ∈ es1.toList, Ent w e) (m1 : (es1.toList.map tx).Perm ys)
    (hb1 : es1.size < scanBound) (hf2 : t2.fits es1.size = true) (hr : Ris t2.place.toList) (hl : w.params.followText "set-order" = true ∨ t2.led = true)
    {was : Bool} {R : Option Bool → Shared → Prop}
    (hR : ∀ h', Heap.SameBut a s.heap h' → At w h' a ys → R (some true) { s with heap := h' }) :
    wpAny (model P w) A (do
        storeSet a es1 t2
        if (!was && t2.tooFull) = true then do
            g (relayAll t2 es1 (SetTable.grown es1.size)).2.2
            storeSet a (relayAll t2 es1 (SetTable.grown es1.size)).1 (relayAll t2 es1 (SetTable.grown es1.size)).2.1
            pure (some true)
          else pure (some true)) R E s := by
  refine wpAny_bind (wpAny_storeSet_of ho hd ?_ (fits_of_scanBound hb1))
  have q1 := store_at (es' := es1) (t' := t2) ho hd
  have sb := Heap.SameBut.update s.heap a (Obj.putSet es1 t2)
  split
  · have p3 := relayAll_perm t2 es1 (SetTable.grown es1.size)
    have f3 := relayAll_fits t2 es1 (SetTable.grown es1.size)
    have r3 := relayAll_ris t2 es1 (SetTable.grown es1.size)
    have l3 := relayAll_led t2 es1 (SetTable.grown es1.size)
    generalize relayAll t2 es1 (SetTable.grown es1.size) = Z at p3 f3 r3 l3 ⊢
    obtain ⟨es2, t3, gave⟩ := Z
    dsimp only at p3 f3 r3 l3 ⊢
    have z2 : es2.size = es1.size := by
      have := p3.length_eq
      rw [Array.length_toList, Array.length_toList] at this
      exact this
    refine wpAny_bind (hg _ _ _ ?_)
    refine wpAny_bind (wpAny_storeSet_of q1 rfl ?_ (fits_of_scanBound (by rw [z2]; exact hb1)))
    have q2 := store_at (es' := es2) (t' := t3) q1 rfl
    refine wpAny_pure (hR _ (sb.trans (Heap.SameBut.update _ a _)) ?_)
    exact ⟨_, es2, _, t3, q2, hx, rfl, fun e he => g1 e (p3.mem_iff.mp he), (p3.map tx).trans m1, by rw [z2]; exact hb1, f3, r3, hl.imp id fun z => l3.trans z⟩
  · exact wpAny_pure (hR _ sb ⟨_, es1, _, t2, q1, hx, rfl, g1, m1, hb1, hf2, hr, hl⟩)

theorem add_hashed {k : Str} {u : Tok} {Q : Bool → Shared → Prop} (R : At w s.heap a ys) (room : ys.length + 1 < scanBound)
    (hQ : ∀ h', Heap.SameBut a s.heap h' → At w h' a (if k ∈ ys then ys else k :: ys) → Q (!decide (k ∈ ys)) { s with heap := h' }) :
    wpAny (model P w) A (setAddHashed a (.str k u) (hashStr w k)) Q E s := by
  obtain ⟨o, es, ep, t, ho, hx, hd, g, pm, hb, hf, hr, hl⟩ := R
  have hkey : (strKind P w).is k (.str k u) = true := Froz.is_str k u
  have hel : ElemsOf (strKind P w) es.toList := Ent.elems g
  have hz : es.size = ys.length := by
    have := pm.length_eq
    rw [List.length_map, Array.length_toList] at this
    exact this
  unfold setAddHashed setAddHashedIn
  refine wpAny_holding (wpAny_bind (wpAny_setState_of ho hd hf ?_))
  dsimp only
  rw [byScan_of (x := Value.str k u) rfl hb hel]
  simp only [↓reduceIte]
  unfold setAddByScan
  refine wpAny_bind ?_
  refine wpAny_bind (wpAny_rule ?_)
  refine wpAny_bind (wpAny_setScan_of (knd := strKind P w) (k := k) hkey ho hd hf hel ?_)
  cases hfi : List.findIdx? (fun e => (strKind P w).is k e.2) es.toList with
  | some j =>
    dsimp only
    obtain ⟨hj, pj, _⟩ := List.findIdx?_eq_some_iff_getElem.mp hfi
    have hk : k ∈ ys := pm.mem_iff.mp ((Ent.mem (P := P) g k).mpr ⟨es.toList[j], List.getElem_mem hj, pj⟩)
    refine wpAny_pure (wpAny_pure ?_)
    have q := hQ s.heap (Heap.SameBut.refl a s.heap) (by rw [if_pos hk]; exact ⟨o, es, ep, t, ho, hx, hd, g, pm, hb, hf, hr, hl⟩)
    rw [decide_eq_true hk] at q
    exact q
  | none =>
    dsimp only
    have hk : k ∉ ys := fun z => by
      obtain ⟨e, he, q⟩ := (Ent.mem (P := P) g k).mp (pm.mem_iff.mpr z)
      have c := List.findIdx?_eq_none_iff.mp hfi e he
      rw [q] at c
      cases c
    have hgw : ∀ (b : Bool) {z : Shared} {R : Unit → Shared → Prop}, R () z → wpAny (model P w) A (match b with | true => rule "set.scan.the-table-gave-way" | false => pure ()) R E z := by
      intro b z R q
      cases b
      · exact wpAny_pure q
      · exact wpAny_rule q
    have p1 := layNew_perm t es (hashStr w k) (.str k u)
    have f1 := layNew_fits t es (hashStr w k) (.str k u)
    have r1 := layNew_ris t es (hashStr w k) (.str k u) hr
    have l1 := layNew_led t es (hashStr w k) (.str k u)
    generalize layNew t es (hashStr w k) (.str k u) = Z at p1 f1 r1 l1 ⊢
    obtain ⟨es1, t1, was, gave⟩ := Z
    dsimp only at p1 f1 r1 l1 ⊢
    rw [Array.toList_push] at p1
    have pc : es1.toList.Perm ((hashStr w k, Value.str k u) :: es.toList) := p1.trans (List.perm_append_singleton _ _)
    have pk : (es1.toList.map tx).Perm (k :: ys) := (pc.map tx).trans (List.Perm.cons k pm)
    have g1 : ∀ e ∈ es1.toList, Ent w e := by
      intro e he
      cases List.mem_cons.mp (pc.mem_iff.mp he) with
      | inl z => exact ⟨k, u, by rw [z], by rw [z]⟩
      | inr z => exact g e z
    have hb1 : es1.size < scanBound := by
      have e1 : es1.size = ys.length + 1 := by
        have := pk.length_eq
        rw [List.length_map, Array.length_toList] at this
        exact this
      rw [e1]
      exact room
    have hld : w.params.followText "set-order" = true ∨ t1.led = true := hl.imp id fun z => l1.trans z
    have fin : ∀ h', Heap.SameBut a s.heap h' → At w h' a (k :: ys) → Q true { s with heap := h' } := by
      intro h' sb r
      have q := hQ h' sb (by rw [if_neg hk]; exact r)
      rw [decide_eq_false hk] at q
      exact q
    refine wpAny_bind (hgw _ ?_)
    split
    · refine wpAny_bind ?_
      rw [hashByValue_scannable 8 (x := Value.str k u) rfl]
      refine wpAny_pure ?_
      refine add_tail (ys := k :: ys) ?_ ho hx hd g1 pk hb1 ?_ ?_ ?_ ?_
      · intro b z R q
        cases b
        · exact wpAny_pure q
        · exact wpAny_rule q
      · first | (split <;> first | exact f1 | exact SetTable.fits_plain_off f1) | exact f1
      · first | (split <;> exact r1) | exact r1
      · first | (split <;> exact hld) | exact hld
      · intro h' sb r
        dsimp only
        exact wpAny_pure (fin h' sb r)
    · refine wpAny_bind (wpAny_pure ?_)
      simp only [↓reduceIte]
      refine add_tail (ys := k :: ys) ?_ ho hx hd g1 pk hb1 f1 r1 hld ?_
      · intro b z R q
        cases b
        · exact wpAny_pure q
        · exact wpAny_rule q
      · intro h' sb r
        dsimp only
        exact wpAny_pure (fin h' sb r)
end

/-! ### the signs of a text, each once -/
abbrev one (c : Nat) : Str := ⟨#[c]⟩
theorem one_inj {c d : Nat} (h : one c = one d) : c = d := by
  have q : [c] = [d] := congrArg (fun y : Str => y.cps.toList) h
  exact (List.cons.inj q).1
/-- the members behind the first signs -/
def met : List Nat → List Nat → List Nat
  | acc, [] => acc
  | acc, c :: r => met (if c ∈ acc then acc else c :: acc) r
theorem met_len (l : List Nat) : ∀ acc : List Nat, (met acc l).length ≤ acc.length + l.length := by
  induction l with
  | nil => intro acc; exact Nat.le_refl _
  | cons c r ih =>
    intro acc
    have h := ih (if c ∈ acc then acc else c :: acc)
    show (met (if c ∈ acc then acc else c :: acc) r).length ≤ acc.length + (r.length + 1)
    split at h <;> rename_i hc
    · rw [if_pos hc]; omega
    · rw [if_neg hc]
      rw [List.length_cons] at h
      omega
theorem met_mem (l : List Nat) : ∀ (acc : List Nat) (c : Nat), c ∈ met acc l ↔ c ∈ acc ∨ c ∈ l := by
  induction l with
  | nil => intro acc c; simp [met]
  | cons d r ih =>
    intro acc c
    show c ∈ met (if d ∈ acc then acc else d :: acc) r ↔ _
    rw [ih]
    by_cases hd : d ∈ acc
    · rw [if_pos hd, List.mem_cons]
      constructor
      · rintro (q | q)
        · exact .inl q
        · exact .inr (.inr q)
      · rintro (q | q | q)
        · exact .inl q
        · exact .inl (q ▸ hd)
        · exact .inr q
    · rw [if_neg hd, List.mem_cons, List.mem_cons]
      constructor
      · rintro ((q | q) | q)
        · exact .inr (.inl q)
        · exact .inl q
        · exact .inr (.inr q)
      · rintro (q | q | q)
        · exact .inl (.inr q)
        · exact .inl (.inl q)
        · exact .inr q
theorem met_nodup (l : List Nat) : ∀ acc : List Nat, acc.Nodup → (met acc l).Nodup := by
  induction l with
  | nil => intro acc h; exact h
  | cons d r ih =>
    intro acc h
    refine ih _ ?_
    by_cases hd : d ∈ acc
    · rw [if_pos hd]; exact h
    · rw [if_neg hd]; exact List.nodup_cons.mpr ⟨hd, h⟩
theorem met_mono (l : List Nat) : ∀ (acc : List Nat), acc.length ≤ (met acc l).length := by
  induction l with
  | nil => intro acc; exact Nat.le_refl _
  | cons d r ih =>
    intro acc
    refine Nat.le_trans ?_ (ih _)
    by_cases hd : d ∈ acc
    · rw [if_pos hd]; exact Nat.le_refl _
    · rw [if_neg hd]; exact Nat.le_succ _
theorem mem_one {c : Nat} {l : List Nat} : one c ∈ l.map one ↔ c ∈ l := by
  rw [List.mem_map]
  exact ⟨fun ⟨d, hd, q⟩ => one_inj q ▸ hd, fun q => ⟨c, q, rfl⟩⟩

section
variable {P : Program} {w : World} {A : Around} {R : Result → Shared → Prop} {I : Addr} {fp wr : List Addr} {St : Nat → Heap → Prop} {x : Str}
/-- the making: sign by sign into the set at S -/
theorem loop (W : Walks P w A.in1 I fp wr x.cps.size (SignAt x) St) (S : Addr) (hS : S ∉ fp) (hfew : (met [] x.cps.toList).length + 1 < scanBound) :
    ∀ (r : List Nat) (i : Nat) (acc : List Nat) (s : Shared), x.cps.toList.drop i = r → i ≤ x.cps.size → met acc r = met [] x.cps.toList → St i s.heap → At w s.heap S (acc.map one) →
      (∀ h' tk, (∀ b o, b ≠ S → b ∉ wr → s.heap.get? b = some o → h'.get? b = some o) → At w h' S ((met [] x.cps.toList).map one) → R (.ok (.ret .none)) { s with heap := h', toks := tk }) →
      codeAny (model P w) A (.builtin "set.update.loop" ⟨[.ref S, .ref I], []⟩) R s := by
  have hSw : S ∉ wr := fun z => hS (W.sub _ z)
  intro r
  induction r with
  | nil =>
    intro i acc s hr hi hm hst hat hR
    have hin : i = x.cps.size := by
      have := List.drop_eq_nil_iff.mp hr
      rw [Array.length_toList] at this
      omega
    subst hin
    refine codeAny_builtin PyProof.Rows.F.entry_set_update_loop ?_
    rw [Around.under_plainId PyProof.Rows.F.plain_set_update_loop _]
    show wpAny _ A.in1 (pyNext (.ref I) >>= _) _ _ s
    refine wpAny_bind (W.done s _ _ hst fun h' tk k => ?_)
    show wpAny _ A.in1 (ret Value.none) _ _ _
    refine wpAny_pure (hR h' tk (fun b o _ hb e => k b o hb e) ?_)
    have e : acc = met [] x.cps.toList := hm
    rw [← e]
    exact hat.stays fun o e => k S o hSw e
  | cons c r ih =>
    intro i acc s hr hi hm hst hat hR
    obtain ⟨hx, hr2⟩ := Froz.at_of hr
    have hlt : i < x.cps.size := by
      rcases Nat.lt_or_ge i x.cps.size with z | z
      · exact z
      · rw [Array.getElem?_eq_none z] at hx
        cases hx
    refine codeAny_builtin PyProof.Rows.F.entry_set_update_loop ?_
    rw [Around.under_plainId PyProof.Rows.F.plain_set_update_loop _]
    show wpAny _ A.in1 (pyNext (.ref I) >>= _) _ _ s
    refine wpAny_bind (W.item i s _ _ hlt hst fun v h1 tk1 hv hst1 k1 => ?_)
    obtain ⟨d, u, hd, rfl⟩ := hv
    have ed : d = c := Option.some.inj (hd.symm.trans hx)
    subst ed
    have hat1 : At w h1 S (acc.map one) := hat.stays fun o e => k1 S o hSw e
    show wpAny _ A.in1 (holding [Value.str (one d) u] (setAdd S (.str (one d) u)) >>= _) _ _ _
    refine wpAny_bind (wpAny_holding ?_)
    unfold setAdd
    refine wpAny_holding ?_
    refine wpAny_bind ((strKind P w).pyHash (k := one d) (Froz.is_str _ _) ?_)
    have hlen : (acc.map one).length + 1 < scanBound := by
      rw [List.length_map]
      have := met_mono (d :: r) acc
      rw [hm] at this
      omega
    refine add_hashed (ys := acc.map one) (s := { s with heap := h1, toks := tk1 + 1 }) hat1 hlen fun h2 sb hat2 => ?_
    have e2 : (if one d ∈ acc.map one then acc.map one else one d :: acc.map one) = (if d ∈ acc then acc else d :: acc).map one := by
      by_cases z : d ∈ acc
      · rw [if_pos z, if_pos (mem_one.mpr z)]
      · rw [if_neg z, if_neg (fun q => z (mem_one.mp q))]
        rfl
    rw [e2] at hat2
    have k2 : ∀ b o, b ≠ S → h1.get? b = some o → h2.get? b = some o := fun b o hb e => (sb.2 b hb).trans e
    refine wpAny_pure ⟨plainId_quiet PyProof.Rows.F.plain_set_update_loop _, ih (i + 1) _ _ hr2 hlt hm (W.frame _ _ _ hst1 fun b hb o e => k2 b o (fun z => hS (z ▸ hb)) e) hat2 fun h3 tk3 k3 hat3 => ?_⟩
    exact hR h3 tk3 (fun b o hb hw e => k3 b o hb hw (k2 b o hb (k1 b o hw e))) hat3
end
end Tx

set_option Elab.async false
set_option linter.all false
set_option maxRecDepth 100000
set_option maxHeartbeats 3200000
/-! sets of texts: set(a text), sorted(it), as calls -/
namespace Tx
open PySem PySem.Spec PyProof.Rows L2

section
variable {P : Program} {w : World} {A : Around} {E : Value → Shared → Prop} {s : Shared}
theorem fresh_at (w : World) (h : Heap) (led : Bool) (hl : w.params.followText "set-order" = true ∨ led = true) :
    At w (h.push { cls := .type "set", dict := none, data := .set #[] 0 (.fresh 0 0 led) }) h.objs.size ([] : List Str) :=
  ⟨_, #[], 0, .fresh 0 0 led, Heap.get?_push_size _ rfl, ⟨rfl, rfl, rfl⟩, rfl, (fun e he => by simp at he), by simp, by decide, by rfl, List.Pairwise.nil, hl⟩

/-- a new set, as set.__new__ lays it -/
theorem new_set (v : Value) {R : Value → Shared → Prop}
    (h : R (.ref s.heap.objs.size) { s with heap := s.heap.push { cls := .type "set", dict := none, data := .set #[] 0 (.fresh 0 0 (!w.params.followText "set-order")) } }) :
    codeAny (model P w) A (.call (.builtin "set.__new__") ⟨[.type "set", v], []⟩) (wants R E) s := by
  refine codeAny_of_tree ?_
  show wpAny _ A.in1 (do
    checkBuiltinCall "set.__new__" ⟨[.type "set", v], []⟩
    again (.builtin "set.__new__" ⟨[.type "set", v], []⟩)) _ _ s
  refine wpAny_bind (wpAny_of_eq (F.newCall_set_1 v) (wpAny_pure ⟨plainId_quiet F.plain_set_new _, codeAny_builtin F.entry_set_new ?_⟩))
  rw [Around.under_plainId F.plain_set_new _]
  unfold Builtin.«set.__new__»
  unfold Builtin.Frozenset.newClass
  have hsub := sub_set_self
  obtain ⟨hp, g, d, tk, os⟩ := s
  dsimp only
  wp_walk
  refine wpAny_askSetting (wpAny_pure ?_)
  dsimp only
  simp only [newObj]
  exact wpAny_bind (wpAny_alloc (wpAny_pure (wpAny_pure h)))

theorem call_set_text {x : Str} {t : Tok} {Q : Value → Shared → Prop} (hh : A.handled = none) (hfew : (met [] x.cps.toList).length + 1 < scanBound)
    (h : ∀ (h' : Heap) (tk : Nat), At w h' s.heap.objs.size ((met [] x.cps.toList).map one) → (∀ b o, s.heap.get? b = some o → h'.get? b = some o) → Q (.ref s.heap.objs.size) { s with heap := h', toks := tk }) :
    wpAny (model P w) A (call (.type "set") [.str x t]) Q E s := by
  obtain ⟨c, tl, hmro⟩ := PySem.F.called_set.mro
  have hmade := PySem.F.called_set.made
  have hsub := PySem.F.called_set.sub
  refine wpAny_call (codeAny_of_tree ?_)
  show wpAny _ _ (callAny (.type "set") _) _ _ _
  refine wpAny_pure ⟨Code.quiet_builtin _ (by decide +kernel), codeAny_builtin PySem.F.entry_type_call ?_⟩
  rw [Around.under_plain (weight_type_call_type "set" [.str x t] []) rfl]
  have h1 := PySem.F.called_set.notType
  have h2 := PySem.F.called_set.canCreate
  have hct := PySem.F.typeCall_set_1 (.str x t)
  repeat (any_goals (first | assumption | wp_step))
  refine codeAny_mono (new_set (P := P) (w := w) (E := E) (.str x t) (R := fun obj z => ∃ led : Bool, (w.params.followText "set-order" = true ∨ led = true) ∧ obj = .ref s.heap.objs.size ∧ z = { s with heap := s.heap.push { cls := .type "set", dict := none, data := .set #[] 0 (.fresh 0 0 led) } }) ⟨_, ?_, rfl, rfl⟩) fun r z hr => ?_
  · cases w.params.followText "set-order"
    · exact .inr rfl
    · exact .inl rfl
  cases r with
  | error e => exact hr
  | ok fl =>
    cases fl with
    | ret obj =>
      obtain ⟨led, hled, rfl, rfl⟩ := hr
      have hS : (s.heap.push { cls := .type "set", dict := none, data := .set #[] 0 (.fresh 0 0 led) }).get? s.heap.objs.size = some { cls := .type "set", dict := none, data := .set #[] 0 (.fresh 0 0 led) } := Heap.get?_push_size _ rfl
      have hT : Shared.TypeIs { s with heap := s.heap.push { cls := .type "set", dict := none, data := .set #[] 0 (.fresh 0 0 led) } } (.ref s.heap.objs.size) "set" := ⟨_, hS, rfl⟩
      have hli := PySem.F.called_set.init.lookup
      have hbi := PySem.F.called_set.init.bind (.ref s.heap.objs.size)
      repeat (any_goals (first | assumption | wp_step))
      refine codeAny_mono (codeAny_call_builtin (R := wants (fun r z => r = .none ∧ ∃ h' tk, z = { s with heap := h', toks := tk } ∧ At w h' s.heap.objs.size ((met [] x.cps.toList).map one) ∧
          (∀ b o, s.heap.get? b = some o → h'.get? b = some o)) E) PySem.F.called_set.init.plain PySem.F.entry_set_init (check_set_init_1 hT ?_)) fun r₂ s₂ hr₂ => ?_
      · unfold Builtin.«set.__init__» noKeywords Builtin.Frozenset.updateFrom
        generalize hPI : pyIter = PI
        generalize hAS : Builtin.Frozenset.isAnySet = AS
        wp_walk
        subst hPI
        subst hAS
        refine L2.Fz.anySet ?_
        simp only [Bool.false_eq_true, ↓reduceIte]
        refine wpAny_bind (wpAny_typeOf (typeIs_str _ _ _) ?_)
        have hsd : (Value.type "str" == Value.type "dict") = false := by decide
        simp only [hsd, Bool.false_eq_true, ↓reduceIte]
        refine wpAny_bind (wpAny_pyIter_str fun o St W hst => ?_)
        refine wpAny_bind (wpAny_runValue ?_)
        have hne : s.heap.objs.size ∉ [(s.heap.push { cls := .type "set", dict := none, data := .set #[] 0 (.fresh 0 0 led) }).objs.size] := by
          rw [Heap.size_push, List.mem_singleton]
          exact Nat.ne_of_lt (Nat.lt_succ_self _)
        refine loop (W _ (by simp [hh])) s.heap.objs.size hne hfew _ 0 [] _ (by rfl) (Nat.zero_le _) rfl hst ?_ ?_
        · exact (fresh_at w s.heap led hled).stays fun o e => Heap.get?_push_of_some _ e
        · intro h' tk k hat
          refine wpAny_pure ?_
          show wpAny _ _ (ret Value.none) _ _ _
          refine wpAny_pure ⟨rfl, h', tk, rfl, hat, fun b o e => ?_⟩
          have hb := Heap.lt_size e
          refine k b o (Nat.ne_of_lt hb) ?_ (Heap.get?_push_of_some _ (Heap.get?_push_of_some _ e))
          rw [Heap.size_push, List.mem_singleton]
          exact Nat.ne_of_lt (Nat.lt_succ_of_lt hb)
      · cases r₂ with
        | error e => exact hr₂
        | ok fl₂ =>
          cases fl₂ with
          | ret r =>
            obtain ⟨rfl, h', tk, rfl, hS', hk'⟩ := hr₂
            repeat (any_goals (first | assumption | wp_step))
            exact h _ _ hS' hk'
          | _ => exact hr₂.elim
    | _ => exact hr.elim

/-! ### sorted(a set of one-sign texts) -/
theorem vals_strs {vs : List Value} : ∀ {es : List (Int × Value)}, (∀ e ∈ es, Ent w e) → vs.Perm (es.map (·.2)) → StrsAre vs (vs.map strOf) ∧ (vs.map strOf).Perm (es.map tx) := by
  intro es g p
  refine ⟨strsAre_map vs fun v hv => ?_, ?_⟩
  · obtain ⟨e, he, q⟩ := List.mem_map.mp (p.mem_iff.mp hv)
    obtain ⟨y, u, q1, _⟩ := g e he
    exact ⟨y, u, by rw [← q]; exact q1⟩
  · have q := p.map strOf
    rw [List.map_map] at q
    have e : es.map (strOf ∘ (·.2)) = es.map tx := List.map_congr_left fun e he => by
      obtain ⟨y, u, q1, _⟩ := g e he
      show strOf e.2 = tx e
      unfold tx
      rw [q1]
      rfl
    rw [e] at q
    exact q
theorem pairwise_of_sortedS : ∀ (l : List Str), sortedS l = true → l.Pairwise (fun a b => ltCps b.cps.toList a.cps.toList = false) := by
  have trans : ∀ a b c : List Nat, ltCps b a = false → ltCps c b = false → ltCps c a = false := by
    intro a b c h1 h2
    rw [ltCps_eq] at h1 h2 ⊢
    have h1' := of_decide_eq_false h1
    have h2' := of_decide_eq_false h2
    refine decide_eq_false fun z => ?_
    have n1 : a ≤ b := List.not_lt.mp h1'
    have n2 : b ≤ c := List.not_lt.mp h2'
    exact absurd z (List.not_lt.mpr (List.le_trans n1 n2))
  have all : ∀ (l : List Str) (p : Str), risingS p l = true → (p :: l).Pairwise (fun a b => ltCps b.cps.toList a.cps.toList = false) := by
    intro l
    induction l with
    | nil => intro p _; exact List.pairwise_singleton _ _
    | cons x r ih =>
      intro p h
      have h' : (!ltCps x.cps.toList p.cps.toList && risingS x r) = true := h
      rw [Bool.and_eq_true, Bool.not_eq_true'] at h'
      have q := ih x h'.2
      refine List.pairwise_cons.mpr ⟨fun y hy => ?_, q⟩
      rcases List.mem_cons.mp hy with z | z
      · rw [z]; exact h'.1
      · exact trans _ _ _ h'.1 ((List.pairwise_cons.mp q).1 y z)
  intro l h
  cases l with
  | nil => exact List.Pairwise.nil
  | cons x r => exact all r x h
theorem lt_one {c d : Nat} (h : ltCps (one d).cps.toList (one c).cps.toList = false) : c ≤ d := by
  rw [ltCps_eq] at h
  have q := of_decide_eq_false h
  rcases Nat.lt_or_ge d c with z | z
  · exact absurd (show [d] < [c] from List.cons_lt_cons_iff.mpr (.inl z)) q
  · exact z
/-- sorted one-sign texts, each once, are a rising row of signs -/
theorem rising {ss : List Str} {acc : List Nat} (p : ss.Perm (acc.map one)) (hs : sortedS ss = true) (hn : acc.Nodup) : ∃ ns : List Nat, ss = ns.map one ∧ ns.Perm acc ∧ ns.Pairwise (· < ·) := by
  have back : ∀ l : List Nat, (l.map one).map (fun y => y.cps.toList.headD 0) = l := by
    intro l
    rw [List.map_map]
    exact (List.map_congr_left fun c _ => rfl).trans (List.map_id l)
  have e : ss = (ss.map (fun y => y.cps.toList.headD 0)).map one := by
    rw [List.map_map]
    refine ((List.map_congr_left fun y hy => ?_).trans (List.map_id ss)).symm
    obtain ⟨c, _, q⟩ := List.mem_map.mp (p.mem_iff.mp hy)
    subst q
    rfl
  have pm : (ss.map (fun y => y.cps.toList.headD 0)).Perm acc := by
    have q := p.map (fun y => y.cps.toList.headD 0)
    rw [back] at q
    exact q
  refine ⟨_, e, pm, ?_⟩
  generalize ss.map (fun y => y.cps.toList.headD 0) = ns at e pm ⊢
  subst e
  have h1 := List.pairwise_map.mp (pairwise_of_sortedS _ hs)
  have h2 : ns.Nodup := pm.nodup_iff.mpr hn
  have h3 : ns.Pairwise (· ≠ ·) := h2
  refine List.Pairwise.imp₂ (fun x y a b => ?_) h1 h3
  have c := lt_one a
  omega

theorem sorted_text {a : Addr} {acc : List Nat} {Q : Value → Shared → Prop} (R : At w s.heap a (acc.map one)) (hn : acc.Nodup) (hh : A.handled = none) (h64 : acc.length < 64)
    (hQ : ∀ z p (out : Array Value) (c : Nat) (ns : List Nat), (∀ b o, s.heap.get? b = some o → z.heap.get? b = some o) → z.gens = s.gens → z.os = s.os → s.heap.objs.size ≤ p →
      z.heap.get? p = some (seqObj "list" out c) → StrsAre out.toList (ns.map one) → ns.Pairwise (· < ·) → ns.Perm acc → Q (.ref p) z) :
    wpAny (model P w) A (call (.builtin "sorted") [.ref a]) Q E s := by
  obtain ⟨o, es, ep, t, ho, hx, hd, g, pm, hb, hf, hr, hl⟩ := R
  refine Calls.call_function_entry kind_sorted plain_sorted entry_sorted (args_sorted1 _) ?_
  unfold Builtin.«sorted»
  refine wpAny_bind (m := checkCount "sorted" 1 1 _) (wpAny_pure ?_)
  refine wpAny_bind (collect_set (A := A.in1) hh ⟨o, ho, hx.1, hd⟩ hf hb hr hl fun s1 vs k1 hz g1 o1 pv => ?_)
  obtain ⟨hS, ps⟩ := vals_strs (w := w) g pv
  have ps2 := ps.trans pm
  have hvl : vs.length < 64 := by
    have q := ps2.length_eq
    rw [List.length_map, List.length_map] at q
    rw [q]; exact h64
  refine wpAny_bind (wpAny_newList ?_ (by rw [sizeLine_eq]; omega))
  have hoL : (s1.heap.push (seqObj "list" vs.toArray 0)).get? s1.heap.objs.size = some (seqObj "list" vs.toArray 0) := Heap.get?_push_size _ rfl
  refine wpAny_bind (wpAny_holding (wpAny_call_entry slot_list_sort ⟨_, hoL, rfl⟩ entry_list_sort
    (list_sort_treeK strKind_oneLt hoL hS.keysOf (fun v₁ v₂ rest e => keyKind_strs (by rw [← e]; exact hS)) hvl fun st' hp hs => ⟨_, rfl, ?_⟩) (args_list_sort _)))
  obtain ⟨ss, b1, b2, b3⟩ := sorted_out_str hS hp hs
  obtain ⟨ns, e, pn, ris⟩ := rising (b2.trans ps2) b3 hn
  subst e
  obtain ⟨c, hc⟩ := sortedHeap_at (vs := vs) (out := (arrOf st').map (·.2)) hoL
  refine wpAny_pure ⟨_, rfl, hQ _ s1.heap.objs.size _ c ns (fun b u e => ?_) g1 o1 hz hc b1 ris pn⟩
  have q := k1 b u e
  have hlt := Heap.lt_size q
  show (sortedHeap (s1.heap.push (seqObj "list" vs.toArray 0)) s1.heap.objs.size vs _).get? b = some u
  rw [sortedHeap_old (Nat.ne_of_lt hlt) (by rw [size_push']; exact Nat.lt_succ_of_lt hlt)]
  exact Heap.get?_push_of_some _ q
end
end Tx

set_option Elab.async false
set_option linter.all false
set_option maxRecDepth 100000
set_option maxHeartbeats 3200000
/-! defs that show data by repr: what is known of a call's guards goes along -/
namespace Tg
open PySem PySem.Spec PyProof.Rows L2

/-- nothing is being shown where the call stands -/
abbrev Still (A : Around) : Prop := A.guards = some []

/-- a def's promise, kept where nothing is being shown -/
structure Kept (P : Program) (w : World) (K : PySem.W.Frag) (mg : Str → Option Value) (base : Heap) (cx : CXT) (k : Nat) (f : Addr) (fd : FuncData) (ps : List Str) (sp : Sp) : Prop where
  long : ∀ xs H Q E, sp xs H Q E → xs.length = ps.length
  goes : ∀ (A : Around) (out : List Env) (s : Shared) (H : Hp) (args : Args) (us : List Value) (xs : List V) (Q : VK) (E : XK), Room k A → Still A → Env0 P w K mg base A out s H →
    BindsTo s fd args (ps.zip us) → Vals xs us → sp xs H Q E → codeAny (model P w) A (.call (.ref f) args) (CR cx out P w H s Q E) s

section
variable {P : Program} {w : World} {K : PySem.W.Frag} {mg : Str → Option Value} {base : Heap}
theorem Kept.ok {cx : CXT} {k : Nat} {f : Addr} {name qual : Str} {params : Arguments} {body : List Stmt} {scope : Scope} {dV kV doc pm cdv ct oc : Value} {an od : Option Addr}
    {osl : Array (Option Value)} {N ps : List Str} {sp : Sp}
    (look : K.lookup f = some ⟨oc, od, .func (PySem.W.fnOf name qual params body scope dV kV doc pm an cdv ct), osl⟩)
    (code : PySem.W.codeIn K cdv qual = true) (S : FnScope N ps scope) (long : ∀ xs H Q E, sp xs H Q E → xs.length = ps.length)
    (inner : ∀ (A : Around) (out : List Env) (s : Shared) (H : Hp) (xs : List V) (Q : VK) (E : XK), Room k (A.deeper (envOfC qual scope s.heap.objs.size f cdv)) →
      Still (A.deeper (envOfC qual scope s.heap.objs.size f cdv)) → sp xs H Q E →
      ∃ t, PSs (cxOf cx P w K mg base N qual scope f cdv A out s H E) body t ∧ t { nx := fun _ H2 => Q .non H2, rt := Q } (start N xs) H) :
    Kept P w K mg base cx (k + 1) f (PySem.W.fnOf name qual params body scope dV kV doc pm an cdv ct) ps sp where
  long := long
  goes := by
    intro A out s H args us xs Q E room still e0 bound rel hsp
    have hl := long _ _ _ _ hsp
    have inK : K.In s.heap := e0.mod.kin.keeps fun b o e => (e0.bs b o e).1
    have limit : s.heap.NoLimit := e0.mod.nolimit.keeps fun b o e => (e0.bs b o e).1
    have kinds : ∀ y ∈ ps.zip us, scope.names.lookup y.1 = some .local ∨
        (scope.names.lookup y.1 = some .cell ∧ ((cellsFrom (s.heap.objs.size + 1) scope.names []).lookup y.1).isSome = true) := by
      rintro ⟨n, v⟩ hy
      cases S.par n (List.of_mem_zip hy).1 with
      | inl q => exact .inl q
      | inr q => exact .inr ⟨q, PySem.W.cellsFrom_some _ _ _ (.inl q)⟩
    refine codeAny_call_function room.depth (inK _ _ look) rfl S.co S.gen rfl (PySem.W.codeRec_of inK code) (bound _ _ _ _ ?_)
    refine wpAny_newFunctionEnv_cells S.kind kinds fun env he z x => ?_
    subst he
    refine ⟨limit.keeps x.toInCall.keep, codeAny_func ?_⟩
    obtain ⟨t, ht, hq⟩ := inner A out s H xs Q E (room.deeper _) still hsp
    have J0 : Inv (cxOf cx P w K mg base N qual scope f cdv A out s H E) [] (start N xs) H z := inv_start S room.hd e0 hl rel x
    refine wpAny_mono (ht.run [] z (start N xs) H _ J0 hq) (fun fl z' hs => ?_) fun e z' hs => hs
    have close : ∀ {σ' : L2.St} {H2 : Hp} {v : V} {u : Value}, Inv (cxOf cx P w K mg base N qual scope f cdv A out s H E) [] σ' H2 z' → RelV v u → Q v H2 → CE out P w H s Q u z' := by
      intro σ' H2 v u J rv q
      exact ⟨v, H2, J.os, J.bare, J.base, J.hok, rv, q⟩
    cases fl with
    | ret u =>
      obtain ⟨v, σ', H2, J, rv, q⟩ := hs
      exact close J rv q
    | next =>
      obtain ⟨σ', H2, J, q⟩ := hs
      exact close (v := V.non) (u := Value.none) J rfl q
    | brk =>
      obtain ⟨_, _, _, q⟩ := hs
      exact q.elim
    | cont =>
      obtain ⟨_, _, _, q⟩ := hs
      exact q.elim

/-- for a def of the text that lets nothing out -/
theorem Kept.fn {x qual : Str} {st : Stmt} {f : Addr} {fd : FuncData} {N ps : List Str} {k : Nat} {sp : Sp} (F : Fun K x qual st f fd) (S : FnScope N ps (defScope st))
    (long : ∀ xs H Q E, sp xs H Q E → xs.length = ps.length)
    (inner : ∀ (cdv : Value) (A : Around) (out : List Env) (s : Shared) (H : Hp) (xs : List V) (Q : VK) (E : XK), Room k (A.deeper (envOfC qual (defScope st) s.heap.objs.size f cdv)) →
      Still (A.deeper (envOfC qual (defScope st) s.heap.objs.size f cdv)) → sp xs H Q E →
      ∃ t, PSs (cxOf CX0 P w K mg base N qual (defScope st) f cdv A out s H E).nox (defBody st) t ∧ t { nx := fun _ H2 => Q .non H2, rt := Q } (start N xs) H) :
    Kept P w K mg base CX0 (k + 1) f fd ps sp := by
  obtain ⟨oc, od, kV, doc, pm, an, cdv, ct, osl, e, look, code⟩ := F.ex
  subst e
  refine Kept.ok look code S long fun A out s H xs Q E room still hsp => ?_
  obtain ⟨t, h, q⟩ := inner cdv A out s H xs Q E room still hsp
  exact ⟨t, h.nox, q⟩
end

section
variable {X : Cx} {cx : CXT} {k : Nat} {f : Addr} {fd : FuncData} {ps : List Str} {sp : Sp} {dvs : List V} {ds : List Value} {E : XK} {x : Str} {p pos : Pos} {e : Expr} {es : List Expr} {t : TA}
theorem Kept.runs {pins : List (Addr × Obj)} {σ : L2.St} {H : Hp} {s : Shared} {Q : VK} {us : List Value} {xs : List V} (F : Kept X.prog X.w X.K X.mg X.base cx k f fd ps sp) (room : Room k X.A) (still : Still X.A)
    (hb : Binds X.K fd ps ds) (hd : Vals dvs ds) (hx : Passes cx X E) (I : Inv X pins σ H s) (r : Vals xs us) (h : sp (xs ++ dvs) H Q E) :
    wpAny (model X.prog X.w) X.A (call (.ref f) us) (EP X pins σ Q) X.xe s := by
  have r2 : Vals (xs ++ dvs) (us ++ ds) := r.append hd
  have hl : (us ++ ds).length = ps.length := r2.length.symm.trans (F.long _ _ _ _ h)
  refine wpAny_call (codeAny_mono (F.goes X.A X.stack s H ⟨us, []⟩ (us ++ ds) (xs ++ dvs) Q E room still I.env0 (hb s us I.kIn hl) r2 h) fun r z hq => ?_)
  match r, hq with
  | .error e, hq => exact hx pins σ H s e z I hq
  | .ok (.ret u), hq => exact I.after hq
  | .ok .next, hq => exact False.elim hq
  | .ok .brk, hq => exact False.elim hq
  | .ok .cont, hq => exact False.elim hq
/-- f(e, ..) of such a def -/
theorem pe_callG (F : Kept X.prog X.w X.K X.mg X.base cx k f fd ps sp) (room : Room k X.A) (still : Still X.A) (hg : Gl X x) (hm : X.mg x = some (.ref f)) (hk : PySem.W.keepIn X.K (.ref f) = true)
    (hb : Binds X.K fd ps ds) (hd : Vals dvs ds) (hx : Passes cx X E) (ha : PA X (e :: es) t) (hdb : (x == ("__debug__" : Str)) = false := by decide)
    (he : starEach (e :: es) X.env = (false, eval e X.env) :: starEach es X.env := by rfl) (hpl : (backTo pos (starEach es X.env)).any (·.1) = false := by rfl) :
    PE X (.Call (.Name x p) (e :: es) [] pos) (tCall sp dvs E t) := by
  constructor
  intro pins s σ H Q I h
  refine wpAny_Call_Name_kw (ld_glob I hg hm ?_ hdb)
  refine PySem.W.callWith_K (h₀ := X.base) I.ok.mod.kin hk ?_ he hpl
  exact thn (ha.run pos pins s σ H _ I h) fun us z ⟨xs, H1, J, r, q⟩ => ⟨J.kIn, F.runs room still hb hd hx J r q⟩

/-- data as it stands in the abstract heap: none, bools, ints, texts, lists, tuples, and dicts of texts and ints -/
inductive Data (K : PySem.W.Frag) (H : Hp) : V → PyData → Prop
  | flat {v : V} {d : PyData} (h : Dp K H v d) (n : d.hasDict = false) : Data K H v d
  | dict {a : Addr} {kvs : List (Str × Int)} (h : H a = some (.dK (kvs.map fun p => (Sum.inr p.1, V.int p.2)))) : Data K H (.ref a) (.dict (kvs.map fun p => (.str p.1, .int p.2)))

theorem keys_flat (h : Heap) : ∀ (kvs : List (Str × Int)) (es : List DictEntry) (vs : List (Key × Value)), Pairs (mixKind X.prog X.w) es vs → KV (kvs.map fun p => (Sum.inr p.1, V.int p.2)) vs →
    ReadsAll h (es.map (·.key)) ((kvs.map fun p => ((PyData.str p.1, PyData.int p.2) : PyData × PyData)).map (·.1)) [] ∧ ReadsAll h (es.map (·.val)) ((kvs.map fun p => ((PyData.str p.1, PyData.int p.2) : PyData × PyData)).map (·.2)) [] := by
  intro kvs
  induction kvs with
  | nil =>
    intro es vs hp rel
    cases rel
    cases hp
    exact ⟨.nil, .nil⟩
  | cons p kvs ih =>
    intro es vs hp rel
    cases rel with
    | @cons _ kv _ vs' r1 r2 =>
      cases hp with
      | @cons e _ es' _ hk hv hp' =>
        obtain ⟨q1, q2⟩ := ih _ _ hp' r2
        obtain ⟨k0, v0⟩ := kv
        obtain ⟨r3, r4⟩ := r1
        dsimp only at r3 r4 hk hv
        subst r3
        obtain ⟨t, r4⟩ := r4
        rcases keyIs_shape (show keyIs (Sum.inr p.1 : Key) e.key = true from hk) with ⟨i, t', z, _⟩ | ⟨x, t', z, e'⟩
        · cases z
        · cases z
          refine ⟨?_, ?_⟩
          · show ReadsAll h (e.key :: _) (PyData.str p.1 :: _) ([] ++ [])
            rw [e']
            exact .cons (.str _ _) q1
          · show ReadsAll h (e.val :: _) (PyData.int p.2 :: _) ([] ++ [])
            rw [hv, r4]
            exact .cons (.int _ _) q2
theorem Data.reads {pins : List (Addr × Obj)} {σ : L2.St} {H : Hp} {s : Shared} (I : Inv X pins σ H s) {v : V} {u : Value} {d : PyData} (h : Data X.K H v d) (r : RelV v u) :
    ∃ as, Reads s.heap u d as ∧ (d.hasDict = true → sysModules ∉ as) := by
  cases h with
  | flat h n =>
    obtain ⟨as, q⟩ := Dp.reads I d v u h r
    exact ⟨as, q, fun z => by rw [n] at z; cases z⟩
  | @dict a kvs h =>
    cases r
    obtain ⟨hz, hs, vs, rel, o, es, ep, ho, hx, hd, _, hp, _⟩ := I.hok a _ h
    obtain ⟨q1, q2⟩ := keys_flat (X := X) s.heap kvs _ _ hp rel
    refine ⟨_, Reads.dict ho hx.1 hd q1 q2, fun _ z => ?_⟩
    simp only [List.append_nil, List.mem_singleton] at z
    rw [z] at hs
    simp at hs

/-- repr(x) -/
def rShow (K : PySem.W.Frag) : List V → Hp → VK → Prop := fun xs H Q => ∃ (x : V) (d : PyData), xs = [x] ∧ Data K H x d ∧ d.showable = true ∧ d.depth < 60 ∧ d.shown.length ≤ sizeLine ∧ Q (.str d.shown) H
theorem call_show (still : Still X.A) (hu : X.A.units + 64 < cLine) : CallR X (.builtin "repr") (rShow X.K) := by
  intro pins s σ H xs us Q I r h
  obtain ⟨x, d, rfl, hd, h1, h3, h4, q⟩ := h
  obtain ⟨u, rfl, r1⟩ : ∃ u, us = [u] ∧ RelV x u := by
    cases r with
    | cons a b => cases b; exact ⟨_, rfl, a⟩
  obtain ⟨as, rd, hsm⟩ := Data.reads I hd r1
  cases rd with
  | none => exact P.repr_of_none ⟨.str (PyData.shown .none), H, I.tok _, ⟨_, rfl⟩, q⟩
  | bool b => exact P.repr_of_bool ⟨.str (PyData.shown (.bool b)), H, I.tok _, ⟨_, rfl⟩, q⟩
  | int i t => exact P.repr_of_int (of_decide_eq_true h1) ⟨.str (PyData.shown (.int i)), H, I.tok _, ⟨_, rfl⟩, q⟩
  | str z t => exact P.repr_of_str ⟨.str (PyData.shown (.str z)), H, I.tok _, ⟨_, rfl⟩, q⟩ h4
  | list a1 a2 a3 a4 => exact repr_of_reads' (Reads.list a1 a2 a3 a4) h1 hsm still (by omega) (fun _ _ e => e) (fun h' u tk hk => ⟨.str (PyData.shown _), H, I.kept (t' := tk) hk, ⟨_, rfl⟩, q⟩) h4
  | tuple a1 a2 a3 a4 => exact repr_of_reads' (Reads.tuple a1 a2 a3 a4) h1 hsm still (by omega) (fun _ _ e => e) (fun h' u tk hk => ⟨.str (PyData.shown _), H, I.kept (t' := tk) hk, ⟨_, rfl⟩, q⟩) h4
  | dict a1 a2 a3 a4 a5 => exact repr_of_reads' (Reads.dict a1 a2 a3 a4 a5) h1 hsm still (by omega) (fun _ _ e => e) (fun h' u tk hk => ⟨.str (PyData.shown _), H, I.kept (t' := tk) hk, ⟨_, rfl⟩, q⟩) h4
end

/-! ### the head: the law's call, nothing being shown -/
section
variable {P : Program} {w : World} {K : PySem.W.Frag} {mg mb : Str → Option Value} {cx : CXT} {k : Nat} {fa a : Addr} {fd : FuncData} {x : Str} {sp : Sp} {s₁ : Shared} {vs : List Value} {ns : List Int}
/-- from one abstract heap in which at most the script stands -/
theorem law_core (KX : K.In s₁.heap) (hns : s₁.heap.Ns mainGlobals mg) (hb : s₁.heap.Ns builtinsNs mb) (hbb : ∀ x : Str, x ≠ "__name__" → mb x = bootBuiltins x) (hlim : s₁.heap.NoLimit) (hg : s₁.gens = #[])
    (ha : s₁.heap.get? a = some { cls := .type "list", data := .seq vs.toArray }) (room : Room k callerA)
    (F : ∀ base : Heap, K.In base → base.Ns mainGlobals mg → Kept P w K mg base cx k fa fd [x] sp) (hbind : ∀ (s : Shared) (u : Value), BindsTo s fd ⟨[u], []⟩ [(x, u)])
    (hcx : ∀ H e z, cx [] H s₁ (fun _ _ _ => False) e z → False)
    (H : Hp) (only : Only H) (want : sp [.ref a] H (fun v _ => v = .bl true) fun _ _ _ => False) (hok : HOk P w H s₁.heap) (at_a : ∀ b, H b ≠ none → b = a) (notK : H a ≠ none → K.lookup a = none) :
    codeAny (model P w) callerA (.call (.ref fa) ⟨[.ref a], []⟩) (fun r z => r = .ok (.ret (.bool true)) ∧ OldK s₁.heap z.heap ∧ z.os = s₁.os ∧ AllBare z.gens) s₁ := by
  have under : ∀ {b : Addr} {o : Obj}, s₁.heap.get? b = some o → H b = none → (hidT s₁.heap H).get? b = some o := fun e n => hidT_get e n
  have away : ∀ {b : Addr}, (b = a → False) → H b = none := by
    intro b n
    cases q : H b with
    | none => rfl
    | some u => exact (n (at_a b (by rw [q]; simp))).elim
  have noDict : ∀ {b : Addr} {o : Obj} {es : Array DictEntry} {ep : Nat}, s₁.heap.get? b = some o → o.data = .dict es ep → H b = none := by
    intro b o es ep e d
    refine away fun z => ?_
    subst z
    rw [ha] at e
    cases e
    cases d
  have names : ∀ {b : Addr} {m : Str → Option Value}, s₁.heap.Ns b m → (hidT s₁.heap H).Ns b m := by
    rintro b m ⟨o, es, ep, e, d, r⟩
    exact ⟨o, es, ep, under e (noDict e d), d, r⟩
  have inB : K.In (hidT s₁.heap H) := by
    intro b o e
    refine under (KX b o e) ?_
    cases q : H b with
    | none => rfl
    | some u =>
      have z := at_a b (by rw [q]; simp)
      subst z
      have n := notK (by rw [q]; simp)
      rw [n] at e
      cases e
  have md : Mod K mg (hidT s₁.heap H) := ⟨inB, names hns, ⟨mb, names hb, hbb⟩, let ⟨mc, h1, h2⟩ := hlim; ⟨mc, names h1, h2⟩⟩
  have e0 : Env0 P w K mg (hidT s₁.heap H) callerA [] s₁ H := by
    refine ⟨rfl, md, fun b o e => of_hidT e, Nat.le_of_eq (hidT_size _ _), trivial, fun b hb => ?_, hok, .of_eq hg⟩
    exact absurd (show b ∈ ([] : List Addr) from hb) (by simp)
  refine codeAny_mono ((F _ inB (names hns)).goes callerA [] s₁ H ⟨[.ref a], []⟩ [.ref a] [.ref a] _ _ room rfl e0 (hbind s₁ (.ref a)) (.cons rfl .nil) want) fun r z h => ?_
  match r, h with
  | .error e, h => exact (hcx H e z h).elim
  | .ok .next, h => exact False.elim h
  | .ok .brk, h => exact False.elim h
  | .ok .cont, h => exact False.elim h
  | .ok (.ret u), h =>
    obtain ⟨v, H2, os, bare, un, hok2, r2, q⟩ := h
    have q' : v = .bl true := q
    subst q'
    obtain rfl : u = Value.bool true := r2
    refine ⟨rfl, OldK.of_keep fun b o e => ?_, os, bare⟩
    cases q : H b with
    | none =>
      refine un.keep b o e q (fun y => ?_) (by simp)
      exact absurd (show b ∈ ([] : List Addr) from y) (by simp)
    | some u =>
      rcases only b with y | ⟨ob, xs, y⟩
      · rw [q] at y
        cases y
      · have y2 := un.frzs b ob _ y
        obtain ⟨e1, _⟩ := hok b _ y
        obtain ⟨e2, _⟩ := hok2 b _ y2
        rw [e] at e1
        cases e1
        exact e2

theorem law_call (KX : K.In s₁.heap) (hns : s₁.heap.Ns mainGlobals mg) (hb : s₁.heap.Ns builtinsNs mb) (hbb : ∀ x : Str, x ≠ "__name__" → mb x = bootBuiltins x) (hlim : s₁.heap.NoLimit) (hg : s₁.gens = #[])
    (ha : s₁.heap.get? a = some { cls := .type "list", data := .seq vs.toArray }) (hi : IntsAre vs ns) (hl : ns.length ≤ sizeLine) (room : Room k callerA)
    (F : ∀ base : Heap, K.In base → base.Ns mainGlobals mg → Kept P w K mg base cx k fa fd [x] sp) (hbind : ∀ (s : Shared) (u : Value), BindsTo s fd ⟨[u], []⟩ [(x, u)])
    (hsp : ∀ H : Hp, Only H → SqL K H a (ns.map V.int) → sp [.ref a] H (fun v _ => v = .bl true) fun _ _ _ => False)
    (hcx : ∀ H e z, cx [] H s₁ (fun _ _ _ => False) e z → False) :
    codeAny (model P w) callerA (.call (.ref fa) ⟨[.ref a], []⟩) (fun r z => r = .ok (.ret (.bool true)) ∧ OldK s₁.heap z.heap ∧ z.os = s₁.os ∧ AllBare z.gens) s₁ := by
  have rel := vals_ints hi
  have len := hi.length
  have core := law_core KX hns hb hbb hlim hg ha room F hbind hcx
  cases hk : K.lookup a with
  | some o =>
    have e := KX a o hk
    rw [ha] at e
    cases e
    have only : Only (fun _ => none) := fun _ => .inl rfl
    refine core (fun _ => none) only (hsp _ only ?_) (fun b u z => nomatch (show (none : Option HO) = some u from z)) (fun b z => absurd rfl z) fun z => absurd rfl z
    exact .inr ⟨_, vs.toArray, _, hk, rfl, rfl, rfl, by rw [List.size_toArray, len]; exact hl, by simpa using rel⟩
  | none =>
    have only : Only (fun b => if b = a then some (.frz { cls := .type "list", data := .seq vs.toArray } (.lst (ns.map V.int))) else none) := by
      intro b
      by_cases z : b = a
      · exact .inr ⟨_, _, if_pos z⟩
      · exact .inl (if_neg z)
    refine core _ only (hsp _ only ?_) (fun b u z => ?_) (fun b z => ?_) fun _ => hk
    · exact .inl (.inr ⟨{ cls := .type "list", data := .seq vs.toArray }, if_pos rfl⟩)
    · by_cases y : b = a
      · have z' := (if_pos y).symm.trans z
        cases z'
        subst y
        exact ⟨ha, by rw [List.length_map]; exact hl, vs, _, rel, ha⟩
      · have z' := (if_neg y).symm.trans z
        cases z'
    · by_cases y : b = a
      · exact y
      · exact absurd (if_neg y) z
end

/-- the goal that the head leaves -/
theorem walk {l : PySem.W.OpenLaw} {n k : Nat} {q : Program} {loose : List Str} {XP : (Str → Option Value) → Heap → Prop} {YP : World → Heap → Prop} {d : DefRec} {K : Params → PySem.W.Frag} {cx : World → CXT} {sp : World → Sp} {x : Str}
    (hn : l.most = some n) (hn2 : n ≤ sizeLine) (hdf : d.params.defaults = []) (room : Room k callerA) (hY : ∀ (w : World) (h : Heap), YP w h → (K w.params).In h)
    (F : ∀ (w : World) (mg : Str → Option Value) (fa : Addr) (h : Heap), (K w.params).In h → h.Ns mainGlobals mg → mg d.name = some (.ref fa) → XP mg h →
      ∃ fd : FuncData, (∀ (s : Shared) (u : Value), BindsTo s fd ⟨[u], []⟩ [(x, u)]) ∧
        ∀ base : Heap, (K w.params).In base → base.Ns mainGlobals mg → Kept l.prog w (K w.params) mg base (cx w) k fa fd [x] (sp w))
    (hsp : ∀ (w : World) (H : Hp) (a : Addr) (ns : List Int), ns.length ≤ n → Only H → SqL (K w.params) H a (ns.map V.int) → sp w [.ref a] H (fun v _ => v = .bl true) fun _ _ _ => False)
    (hcx : ∀ (w : World) (H : Hp) (s : Shared) (e : Value) (z : Shared), cx w [] H s (fun _ _ _ => False) e z → False) :
    PySem.W.WalkO q loose XP YP l.row.toRowW d [] (fun f vs => PySem.call f vs) := by
  refine Att.attach_call hn hdf ?_
  intro w s₀ s₁ mg mb fa o pm cd doc a vs ns G Y ho hd hcd hmg hobj hints hlen hg
  have KX := hY w _ Y
  obtain ⟨fd, hb, hF⟩ := F w mg fa _ KX G.T.g hmg G.X
  exact law_call KX G.T.g G.T.b G.T.builtins G.T.nolimit hg hobj hints (Nat.le_trans hlen hn2) room hF hb (fun H hO hS => hsp w H a ns hlen hO hS) fun H e z => hcx w H s₁ e z
end Tg

set_option Elab.async false
set_option linter.all false
set_option maxRecDepth 100000
set_option maxHeartbeats 3200000
/-! set(a text), sorted(it), list(a text), as rules -/
namespace Tx
open PySem PySem.Spec PyProof.Rows L2

/-- the signs of a text, each once, rising -/
def ups (l : List Nat) : List Nat := (met [] l).mergeSort (fun a b => decide (a ≤ b))
theorem ups_perm (l : List Nat) : (ups l).Perm (met [] l) := List.mergeSort_perm _ _
theorem ups_mem (l : List Nat) (c : Nat) : c ∈ ups l ↔ c ∈ l := by
  rw [(ups_perm l).mem_iff, met_mem]
  simp
theorem ups_nodup (l : List Nat) : (ups l).Nodup := (ups_perm l).nodup_iff.mpr (met_nodup l [] List.nodup_nil)
theorem ups_up (l : List Nat) : (ups l).Pairwise (· < ·) := by
  have h1 : (ups l).Pairwise (fun a b => decide (a ≤ b) = true) :=
    List.pairwise_mergeSort (le := fun a b : Nat => decide (a ≤ b)) (fun a b c h1 h2 => by
      have h1' := of_decide_eq_true h1
      have h2' := of_decide_eq_true h2
      exact decide_eq_true (Nat.le_trans h1' h2')) (fun a b => by
      rcases Nat.le_total a b with z | z
      · simp [z]
      · simp [z]) (met [] l)
  have h2 : (ups l).Pairwise (· ≠ ·) := ups_nodup l
  refine List.Pairwise.imp₂ (fun x y a b => ?_) h1 h2
  have a' := of_decide_eq_true a
  omega
theorem up_eq : ∀ {l m : List Nat}, l.Pairwise (· < ·) → m.Pairwise (· < ·) → (∀ c, c ∈ l ↔ c ∈ m) → l = m
  | [], [], _, _, _ => rfl
  | [], y :: m, _, _, h => by have := (h y).mpr List.mem_cons_self; simp at this
  | x :: l, [], _, _, h => by have := (h x).mp List.mem_cons_self; simp at this
  | x :: l, y :: m, h1, h2, h => by
    obtain ⟨a1, a2⟩ := List.pairwise_cons.mp h1
    obtain ⟨b1, b2⟩ := List.pairwise_cons.mp h2
    have e : x = y := by
      rcases List.mem_cons.mp ((h x).mp List.mem_cons_self) with z | z
      · exact z
      · rcases List.mem_cons.mp ((h y).mpr List.mem_cons_self) with u | u
        · exact u.symm
        · have := a1 y u
          have := b1 x z
          omega
    subst e
    rw [up_eq a2 b2 fun c => ?_]
    constructor
    · intro q
      rcases List.mem_cons.mp ((h c).mp (List.mem_cons_of_mem _ q)) with z | z
      · subst z
        exact absurd (a1 _ q) (Nat.lt_irrefl _)
      · exact z
    · intro q
      rcases List.mem_cons.mp ((h c).mpr (List.mem_cons_of_mem _ q)) with z | z
      · subst z
        exact absurd (b1 _ q) (Nat.lt_irrefl _)
      · exact z
theorem ups_of {l ns : List Nat} (h : ns.Pairwise (· < ·)) (p : ns.Perm (met [] l)) : ns = ups l :=
  up_eq h (ups_up l) fun c => by rw [p.mem_iff, ups_mem, met_mem]; simp

/-- one-sign texts as values -/
abbrev ones (l : List Nat) : List V := l.map fun c => V.str (one c)
theorem ones_map (l : List Nat) : ones l = (l.map one).map V.str := by rw [List.map_map]; rfl

/-- the set of texts at a -/
def TO (w : World) (a : Addr) (acc : List Nat) : HO := .ext fun h => At w h a (acc.map one)
section
variable {X : Cx}
theorem to_new {w : World} {P : Program} {H : Hp} {h : Heap} {a : Addr} {acc : List Nat} (R : At w h a (acc.map one)) : ObjOk P w H h a (TO w a acc) :=
  ⟨R, let ⟨o, _, _, _, ho, _⟩ := R; ⟨o, ho⟩, fun _ _ p k => At.stays p k⟩
/-- set(s), s a text of few different signs -/
def rSetTx (w : World) : List V → Hp → VK → Prop := fun xs H Q => ∃ z : Str, xs = [.str z] ∧ (met [] z.cps.toList).length < 64 ∧ ∀ p, H p = none → Q (.ref p) (upd H p (TO w p (met [] z.cps.toList)))
theorem cr_setTx (hc : X.calm = true) : CallR X (.type "set") (rSetTx X.w) := by
  intro pins s σ H xs us Q I r h
  obtain ⟨z, rfl, hf, q⟩ := h
  obtain ⟨t, rfl⟩ : ∃ t, us = [Value.str z t] := by
    cases r with
    | cons a b =>
      cases b
      obtain ⟨t, rfl⟩ := a
      exact ⟨t, rfl⟩
  have hb : (met [] z.cps.toList).length + 1 < scanBound := by
    have : (64 : Nat) + 1 < scanBound := by decide
    omega
  refine call_set_text (P := X.prog) (w := X.w) (I.ok.hd hc) hb fun h' tk R k => ?_
  exact ⟨.ref _, upd H s.heap.objs.size (TO X.w s.heap.objs.size (met [] z.cps.toList)), I.laid (t' := tk) k (Nat.le_refl _) (to_new R), rfl, q _ (I.hok.fresh (Nat.le_refl _))⟩
/-- sorted(a set of texts) -/
def rSortTx (w : World) : List V → Hp → VK → Prop := fun xs H Q => ∃ (a : Addr) (l : List Nat), xs = [.ref a] ∧ H a = some (TO w a (met [] l)) ∧ (met [] l).length < 64 ∧ ∀ p, H p = none → Q (.ref p) (upd H p (.lst (ones (ups l))))
theorem cr_sortTx (hc : X.calm = true) : CallR X (.builtin "sorted") (rSortTx X.w) := by
  intro pins s σ H vs us Q I r h
  obtain ⟨a, l, rfl, ha, h64, q⟩ := h
  have R : At X.w s.heap a ((met [] l).map one) := (I.hok a _ ha).1
  rw [Vals.ref1 r]
  refine sorted_text (P := X.prog) R (met_nodup l [] List.nodup_nil) (I.ok.hd hc) h64 fun z p out c ns k g o hp hg hS up pm => ?_
  obtain rfl := ups_of up pm
  have hlen : (ones (ups l)).length ≤ sizeLine := by
    rw [List.length_map, pm.length_eq, sizeLine_eq]
    omega
  have hn : H p = none := I.hok.fresh hp
  have hv : Vals (ones (ups l)) out.toList := by rw [ones_map]; exact vals_of_strs hS
  have J : Inv X pins σ (upd H p (.lst (ones (ups l)))) { s with heap := z.heap, gens := z.gens, drawn := z.drawn, toks := z.toks } :=
    I.call (ch := []) (Un.laid k hp hn) (I.hok.laid k hp ⟨hlen, out.toList, c, hv, hg⟩) (by rw [g]; exact I.bare) (fun _ y => nomatch y)
  have e : z = { s with heap := z.heap, gens := z.gens, drawn := z.drawn, toks := z.toks } := by
    cases z
    cases s
    cases o
    rfl
  rw [e]
  exact ⟨.ref p, _, J, rfl, q p hn⟩
/-- list(s), s a text -/
def rListTx : List V → Hp → VK → Prop := fun xs H Q => ∃ z : Str, xs = [.str z] ∧ z.length ≤ sizeLine ∧ ∀ p, H p = none → Q (.ref p) (upd H p (.lst (ones z.cps.toList)))
theorem signs_vals {z : Str} {acc : Array Value} (h : ItemsOf (SignAt z) acc z.cps.size) : Vals (ones z.cps.toList) acc.toList := by
  have all : ∀ (l : List Nat) (us : List Value), us.length = l.length → (∀ (j : Nat) (v : Value), us[j]? = some v → ∃ (c : Nat) (u : Tok), l[j]? = some c ∧ v = Value.str (one c) u) → Vals (ones l) us := by
    intro l
    induction l with
    | nil =>
      intro us hl _
      cases us with
      | nil => exact .nil
      | cons u us => simp at hl
    | cons c l ih =>
      intro us hl hg
      cases us with
      | nil => simp at hl
      | cons u us =>
        obtain ⟨d, t, h1, h2⟩ := hg 0 u rfl
        have e : c = d := Option.some.inj h1
        subst e
        refine .cons ⟨t, h2⟩ (ih us (by simpa using hl) fun j v hv => ?_)
        exact hg (j + 1) v hv
  refine all _ _ (by rw [Array.length_toList, Array.length_toList]; exact h.1) fun j v hv => ?_
  rw [Array.getElem?_toList] at hv
  obtain ⟨c, u, h1, h2⟩ := h.2 j v hv
  exact ⟨c, u, by rw [Array.getElem?_toList]; exact h1, h2⟩
theorem cr_listTx (hc : X.calm = true) : CallR X (.type "list") rListTx := by
  intro pins s σ H xs us Q I r h
  obtain ⟨z, rfl, hl, q⟩ := h
  cases r with
  | cons a b =>
    cases b
    obtain ⟨t, rfl⟩ := a
    refine call_list_str (I.ok.hd hc) z t (hn := hl) fun h' tk acc c k hg hi => ?_
    have hz : (ones z.cps.toList).length ≤ sizeLine := by
      rw [List.length_map, Array.length_toList]
      exact hl
    exact ⟨.ref _, upd H s.heap.objs.size (.lst (ones z.cps.toList)), I.laid (t' := tk) k (Nat.le_refl _) ⟨hz, acc.toList, c, signs_vals hi, by simpa using hg⟩, rfl, q _ (I.hok.fresh (Nat.le_refl _))⟩
/-- a ** b, the result below 2 ^ 27 bits -/
theorem op_powW : OpR X (binaryOp .Pow) (rI (fun i j => 0 ≤ j ∧ (Builtin.Int.intBits i : Int) * j ≤ 2 ^ 27) fun i j => .int (i ^ j.toNat)) := opI fun _ _ _ _ _ _ _ hc q => pow_int hc.1 hc.2 q
end
end Tx

set_option Elab.async false
set_option linter.all false
set_option maxRecDepth 100000
set_option maxHeartbeats 3200000
/-! what the judges are worth, over plain data -/
namespace Tm
open PySem PySem.Spec PySem.Builtin PySem.Builtin.Str PyProof.Rows L2 Tx

abbrev cds (z : Str) : List Nat := z.cps.toList
theorem cds_ext {y z : Str} (h : cds y = cds z) : y = z := by
  cases y with
  | mk a =>
    cases z with
    | mk b =>
      have e : a = b := Array.toList_inj.mp h
      rw [e]
theorem cds_len (z : Str) : (cds z).length = z.length := by
  show z.cps.toList.length = z.cps.size
  rw [Array.length_toList]
/-- every sign of z is one of sg -/
def only (z sg : Str) : Bool := (cds z).all fun c => decide (c ∈ cds sg)
theorem only_iff {z sg : Str} : only z sg = true ↔ ∀ c ∈ cds z, c ∈ cds sg := by
  unfold only
  rw [List.all_eq_true]
  exact ⟨fun h c hc => of_decide_eq_true (h c hc), fun h c hc => decide_eq_true (h c hc)⟩
theorem getD_mem {z : Str} {k : Nat} (h : k < z.length) : z.cps.getD k 0 ∈ cds z := by
  have h' : k < z.cps.size := h
  have e : z.cps.getD k 0 = z.cps[k] := by simp [Array.getD, h']
  rw [e]
  exact Array.getElem_mem_toList h'
theorem mem_getD {z : Str} {c : Nat} (h : c ∈ cds z) : ∃ k, k < z.length ∧ z.cps.getD k 0 = c := by
  obtain ⟨k, hk, e⟩ := List.getElem_of_mem h
  have hk' : k < z.cps.size := by rw [Array.length_toList] at hk; exact hk
  refine ⟨k, hk', ?_⟩
  rw [← e]
  simp [Array.getD, hk']
theorem goes_iff {sg : Str} {c : Nat} : sg.cps.contains c = true ↔ c ∈ cds sg := by
  rw [Array.contains_iff_mem, Array.mem_toList_iff]
/-- strip with all the signs of sg leaves nothing exactly if there is no other sign -/
theorem strip_only (z sg : Str) : decide (Txt.stripChars z sg = Str.empty) = only z sg := by
  unfold Txt.stripChars
  rw [stripBy_eq]
  obtain ⟨a1, a2, a3⟩ := lo_facts sg.cps.contains z
  obtain ⟨b1, b2, b3, b4⟩ := hi_facts sg.cps.contains z _ a1
  generalize stripLo sg.cps.contains true z = lo at a1 a2 a3 b1 b2 b3 b4 ⊢
  generalize stripHi sg.cps.contains true z lo = hi at b1 b2 b3 b4 ⊢
  have key : strSub z lo hi = Str.empty ↔ lo = hi := by
    constructor
    · intro h
      have e : (z.cps.extract lo hi).size = 0 := by
        have := congrArg (fun y : Str => y.cps.size) h
        exact this
      rw [Array.size_extract] at e
      have hb : hi ≤ z.cps.size := b2
      omega
    · intro h
      subst h
      refine cds_ext ?_
      show (z.cps.extract lo lo).toList = (Str.empty).cps.toList
      rw [Array.extract_empty_of_stop_le_start (Nat.le_refl _)]
      rfl
  by_cases h : only z sg = true
  · rw [h]
    refine decide_eq_true (key.mpr ?_)
    have all := only_iff.mp h
    rcases Nat.lt_or_ge lo z.length with hl | hl
    · exfalso
      rcases a3 with e | e
      · omega
      · have := goes_iff.mpr (all _ (getD_mem hl))
        rw [e] at this
        cases this
    · have c2 : hi ≤ z.length := b2
      omega
  · have h' : only z sg = false := by simpa using h
    rw [h']
    refine decide_eq_false fun q => h (only_iff.mpr fun c hc => ?_)
    have e := key.mp q
    obtain ⟨k, hk, rfl⟩ := mem_getD hc
    rcases Nat.lt_or_ge k lo with u | u
    · exact goes_iff.mp (a2 k u)
    · exact goes_iff.mp (b3 k (by omega) hk)

/-! ### the judges -/
def big : Int := 10 ^ 200
def isInt : PyData → Bool
  | .int n => decide (n.natAbs < 10 ^ 200)
  | _ => false
def has (sg : Str) (most : Nat) : PyData → Bool
  | .str z => decide (z.length ≤ most) && only z sg
  | _ => false
def alpha : Str := "abcdefghijklmnopqrstuvwxyz"
def name : PyData → Bool
  | .str z => decide (z.length ≤ 8) && only z alpha && decide (z ≠ Str.empty)
  | _ => false
def rise (z : Str) : Bool := decide (cds z = ups (cds z))
def letters : PyData → Bool
  | .str z => decide (z.length ≤ 3) && only z alpha && decide (z ≠ Str.empty) && rise z
  | _ => false
def prime : PyData → Bool
  | .int n => decide (n = 2 ∨ n = 3 ∨ n = 5 ∨ n = 7)
  | _ => false
def lows (z : Str) : Bool := (cds z).all fun c => decide (97 ≤ c) && decide (c ≤ 122)
def small (most : Nat) : PyData → Bool
  | .str z => decide (1 ≤ z.length) && decide (z.length ≤ most) && lows z
  | _ => false
theorem alpha_iff (c : Nat) : c ∈ cds alpha ↔ 97 ≤ c ∧ c ≤ 122 := by
  have e : cds alpha = (List.range 26).map (· + 97) := by decide +kernel
  rw [e, List.mem_map]
  constructor
  · rintro ⟨k, hk, rfl⟩
    have := List.mem_range.mp hk
    omega
  · rintro ⟨h1, h2⟩
    exact ⟨c - 97, List.mem_range.mpr (by omega), by omega⟩
theorem only_alpha (z : Str) : only z alpha = lows z := by
  unfold only lows
  congr 1
  funext c
  by_cases h : c ∈ cds alpha
  · have := (alpha_iff c).mp h
    simp [h, this.1, this.2]
  · have h2 : ¬ (97 ≤ c ∧ c ≤ 122) := fun q => h ((alpha_iff c).mpr q)
    rw [decide_eq_false h, ← Bool.decide_and, decide_eq_false h2]
theorem nonempty_iff (z : Str) : z ≠ Str.empty ↔ 1 ≤ z.length := by
  constructor
  · intro h
    rcases Nat.eq_zero_or_pos z.length with e | e
    · exfalso
      apply h
      apply cds_ext
      have : (cds z).length = 0 := by rw [cds_len]; exact e
      rw [List.length_eq_zero_iff.mp this]
      rfl
    · exact e
  · intro h e
    subst e
    exact absurd h (by decide)
theorem name_small (d : PyData) : name d = small 8 d := by
  cases d with
  | str z =>
    show (decide (z.length ≤ 8) && only z alpha && decide (z ≠ Str.empty)) = (decide (1 ≤ z.length) && decide (z.length ≤ 8) && lows z)
    rw [only_alpha, decide_eq_decide.mpr (nonempty_iff z)]
    cases decide (z.length ≤ 8) <;> cases lows z <;> cases decide (1 ≤ z.length) <;> rfl
  | _ => rfl
theorem letters_small (d : PyData) : letters d = (small 3 d && (match d with | .str z => rise z | _ => false)) := by
  cases d with
  | str z =>
    show (decide (z.length ≤ 3) && only z alpha && decide (z ≠ Str.empty) && rise z) = (decide (1 ≤ z.length) && decide (z.length ≤ 3) && lows z && rise z)
    rw [only_alpha, decide_eq_decide.mpr (nonempty_iff z)]
    cases decide (z.length ≤ 3) <;> cases lows z <;> cases decide (1 ≤ z.length) <;> cases rise z <;> rfl
  | _ => rfl

/-! ### how numbers and texts are shown -/
theorem shown_int {n k : Int} (h : (toString n : String) = toString k) : n = k := by
  have e := congrArg String.toInt? h
  simpa using e

/-- a text that is judged: short, plain signs, few unlike ones -/
structure Fine (z : Str) : Prop where
  long : z.length ≤ 4001
  few : (met [] (cds z)).length < 64
  plain : ∀ c ∈ cds z, c < 128
/-- the four texts of the primes -/
abbrev four : List V := [.str "2", .str "3", .str "5", .str "7"]
/-- data that is judged -/
def Ok : PyData → Prop
  | .int n => n.natAbs.log2 < 1920
  | .str z => Fine z
  | d => d.showable = true ∧ d.depth < 60 ∧ d.shown.length ≤ sizeLine ∧ inV (.str d.shown) four = false
end Tm

set_option Elab.async false
set_option linter.all false
set_option maxRecDepth 100000
set_option maxHeartbeats 3200000
namespace K58
open PySem L2 Tx Tg Tm
def top (i : Nat) : Stmt := PySem.Challenge.pw_whatcounts_k58_whole_programs_told.main.body.getD i (.Pass ⟨0, 0, 0, 0⟩)
abbrev sInt : Stmt := top 13
abbrev sLetters : Stmt := top 14
abbrev sText : Stmt := top 15
abbrev sCheck : Stmt := top 16
abbrev sHas : Stmt := top 17
abbrev sCText : Stmt := top 19
abbrev sBetween : Stmt := top 20
abbrev sMost : Stmt := top 21
abbrev sAreSteps : Stmt := top 24
abbrev sIsStep : Stmt := top 25
abbrev sIsBetween : Stmt := top 26
abbrev sSizes : Stmt := top 27
abbrev sShifted : Stmt := top 28
abbrev sBelow : Stmt := top 29
abbrev sStepsTo : Stmt := top 30
abbrev sMadeBy : Stmt := top 31
abbrev sLetterAt : Stmt := top 32
abbrev sTool : Stmt := top 34
abbrev sProg : Stmt := top 38
abbrev sCup : Stmt := top 40
abbrev sBit : Stmt := top 41
abbrev sPick : Stmt := top 42
abbrev sSigns : Stmt := top 43
abbrev sLine : Stmt := top 44
abbrev sSmall : Stmt := top 45
abbrev sLinesOf : Stmt := top 46
abbrev sGreat : Stmt := top 47
abbrev sSizesOf : Stmt := top 48
abbrev sLawLetter : Stmt := top 49
abbrev sMoved : Stmt := top 50
abbrev sShort : Stmt := top 51
abbrev sFar : Stmt := top 52
abbrev sLaw : Stmt := top 53
/-! ### values -/
inductive Val (H : Hp) : V → PyData → Prop
  | non : Val H .non .none
  | bl (b : Bool) : Val H (.bl b) (.bool b)
  | int (n : Int) : Val H (.int n) (.int n)
  | str (z : Str) : Val H (.str z) (.str z)
  | lst {a : Addr} (l : List Str) (h : H a = some (.lst (l.map V.str))) : Val H (.ref a) (.list (l.map PyData.str))
  | tup {a : Addr} (l : List Str) (h : H a = some (.tup (l.map V.str))) : Val H (.ref a) (.tuple (l.map PyData.str))
  | tupI {a : Addr} (l : List Int) (h : H a = some (.tup (l.map V.int))) : Val H (.ref a) (.tuple (l.map PyData.int))
  | dct {a : Addr} (kvs : List (Str × Int)) (h : H a = some (.dK (kvs.map fun p => (Sum.inr p.1, V.int p.2)))) : Val H (.ref a) (.dict (kvs.map fun p => (.str p.1, .int p.2)))
theorem Val.same {H H' : Hp} {v : V} {d : PyData} (s : Same H H') (h : Val H v d) : Val H' v d := by
  cases h with
  | non => exact .non
  | bl b => exact .bl b
  | int n => exact .int n
  | str z => exact .str z
  | lst l h => exact .lst l (s _ _ h)
  | tup l h => exact .tup l (s _ _ h)
  | tupI l h => exact .tupI l (s _ _ h)
  | dct l h => exact .dct l (s _ _ h)
def intTy : PyData → Bool
  | .int _ => true
  | .bool _ => true
  | _ => false
def strTy : PyData → Bool
  | .str _ => true
  | _ => false
def blTy : PyData → Bool
  | .bool _ => true
  | _ => false
theorem k_NoneType_int : kitB "NoneType" "int" = some false := by decide +kernel
theorem k_NoneType_str : kitB "NoneType" "str" = some false := by decide +kernel
theorem k_NoneType_bool : kitB "NoneType" "bool" = some false := by decide +kernel
theorem k_bool_int : kitB "bool" "int" = some true := by decide +kernel
theorem k_bool_str : kitB "bool" "str" = some false := by decide +kernel
theorem k_bool_bool : kitB "bool" "bool" = some true := by decide +kernel
theorem k_int_int : kitB "int" "int" = some true := by decide +kernel
theorem k_int_str : kitB "int" "str" = some false := by decide +kernel
theorem k_int_bool : kitB "int" "bool" = some false := by decide +kernel
theorem k_str_int : kitB "str" "int" = some false := by decide +kernel
theorem k_str_str : kitB "str" "str" = some true := by decide +kernel
theorem k_str_bool : kitB "str" "bool" = some false := by decide +kernel
theorem k_list_int : kitB "list" "int" = some false := by decide +kernel
theorem k_list_str : kitB "list" "str" = some false := by decide +kernel
theorem k_list_bool : kitB "list" "bool" = some false := by decide +kernel
theorem k_tuple_int : kitB "tuple" "int" = some false := by decide +kernel
theorem k_tuple_str : kitB "tuple" "str" = some false := by decide +kernel
theorem k_tuple_bool : kitB "tuple" "bool" = some false := by decide +kernel
theorem k_dict_int : kitB "dict" "int" = some false := by decide +kernel
theorem k_dict_str : kitB "dict" "str" = some false := by decide +kernel
theorem k_dict_bool : kitB "dict" "bool" = some false := by decide +kernel
theorem Val.ty {K : PySem.W.Frag} {H : Hp} {v : V} {d : PyData} (h : Val H v d) : ∃ t, TyX K H v t ∧ PySem.W.kitOne K t (.type "int") = some (intTy d) ∧ PySem.W.kitOne K t (.type "str") = some (strTy d) ∧ PySem.W.kitOne K t (.type "bool") = some (blTy d) := by
  cases h with
  | non => exact ⟨_, .base .non, kit_ty k_NoneType_int, kit_ty k_NoneType_str, kit_ty k_NoneType_bool⟩
  | bl b => exact ⟨_, .base (.bl b), kit_ty k_bool_int, kit_ty k_bool_str, kit_ty k_bool_bool⟩
  | int n => exact ⟨_, .base (.int n), kit_ty k_int_int, kit_ty k_int_str, kit_ty k_int_bool⟩
  | str z => exact ⟨_, .base (.str z), kit_ty k_str_int, kit_ty k_str_str, kit_ty k_str_bool⟩
  | lst l h => exact ⟨_, .base (.lst h), kit_ty k_list_int, kit_ty k_list_str, kit_ty k_list_bool⟩
  | tup l h => exact ⟨_, .base (.tup h), kit_ty k_tuple_int, kit_ty k_tuple_str, kit_ty k_tuple_bool⟩
  | tupI l h => exact ⟨_, .base (.tup h), kit_ty k_tuple_int, kit_ty k_tuple_str, kit_ty k_tuple_bool⟩
  | dct l h => exact ⟨_, .base (.dK h), kit_ty k_dict_int, kit_ty k_dict_str, kit_ty k_dict_bool⟩

/-- what the walk asks of the module's names -/
structure Txt (K : PySem.W.Frag) (mg : Str → Option Value) : Prop where
  isi : mg "isinstance" = none
  int : mg "int" = none
  str : mg "str" = none
  bool : mg "bool" = none
  abs : mg "abs" = none
  len : mg "len" = none
  list : mg "list" = none
  set : mg "set" = none
  sorted : mg "sorted" = none
  repr : mg "repr" = none
  range : mg "range" = none
  max : mg "max" = none
  min : mg "min" = none
  all : mg "all" = none
  tuple : mg "tuple" = none
  enum : mg "enumerate" = none
  long : ∃ t, mg "LEAST_TOO_LONG" = some (.int (10 ^ 200) t)
  alpha : ∃ t, mg "ALPHABET" = some (.str alpha t)
  mLet : ∃ t, mg "MAX_LETTERS" = some (.int 3 t)
  mText : ∃ t, mg "MAX_TEXT" = some (.int 4000 t)
  mNum : ∃ t, mg "MAX_NUMBER" = some (.int (10 ^ 100) t)
  mStp : ∃ t, mg "MAX_STEPS" = some (.int 40 t)
  mSiz : ∃ t, mg "MAX_SIZE" = some (.int (10 ^ 400) t)

theorem fine_line {z : Str} (h : Fine z) : z.length ≤ sizeLine := Nat.le_trans h.long (by decide)

/-! ### the program's judges -/
def spHas : Sp := fun vs H Q _ => ∃ (v : V) (d : PyData) (sg : Str) (m : Nat), vs = [v, .str sg, .int m] ∧ Val H v d ∧ Ok d ∧ Q (.bl (has sg m d)) H
section
variable {P : Program} {w : World} {K : PySem.W.Frag} {mg : Str → Option Value} {base : Heap}
theorem scHas : FnScope ["value", "signs", "most"] ["value", "signs", "most"] (defScope sHas) := ⟨rfl, rfl, rfl, by decide +kernel, rfl, by decide +kernel, by decide +kernel⟩
theorem ok_has {f : Addr} {fd : FuncData} (F : Fun K "has_only" "has_only" sHas f fd) (T : Txt K mg) : FnOk P w K mg base CX0 1 f fd ["value", "signs", "most"] spHas := by
  refine F.ok scHas (fun vs H Q E h => ?_) (fun cdv A outer s H vs Q E hr h => ?_)
  · obtain ⟨v, d, sg, m, rfl, _⟩ := h
    rfl
  · obtain ⟨v, d, sg, m, rfl, hv, hd, q⟩ := h
    refine ⟨_, pss_one (ps_ret (pe_and (pe_callB call_isi (by rfl) T.isi (by decide +kernel) (pa_cons (pv 0) (pa_cons (pe_bltn (v := .ty "str") (by rfl) T.str (by decide +kernel) rfl) pa_nil)))
      (pe_and (pe_cmpR op_le (pe_callB call_len_str (by rfl) T.len PySem.boot_len (pa_cons (pv 0) pa_nil)) (pv 2) (nomark _))
      (pe_one (pe_cmpR op_eq (pe_bm PySem.F.plainAttrs_str PySem.F.slot_str_strip PySem.F.type_str_strip mt_stripChars (pv 0) (pa_cons (pv 1) pa_nil)) pe_str (nomark _)))))), ?_⟩
    obtain ⟨t, ty, _, k, _⟩ := Val.ty (K := K) hv
    refine ⟨_, rfl, _, _, _, _, _, rfl, .ty "str", ty, k, strTy d, rfl, ?_⟩
    cases hv with
    | str z =>
      have hz := fine_line (show Fine z from hd)
      refine iteT ?_
      refine ⟨_, rfl, z, rfl, hz, _, rfl, _, _, rfl, rfl, _, rfl, ?_⟩
      have e1 : decide ((z.length : Int) ≤ (m : Int)) = decide (z.length ≤ m) := decide_eq_decide.mpr (by omega)
      rw [e1]
      have e0 : has sg m (.str z) = (decide (z.length ≤ m) && only z sg) := rfl
      rw [e0] at q
      by_cases hm : z.length ≤ m
      · rw [decide_eq_true hm] at q ⊢
        refine iteT ?_
        refine ⟨_, rfl, rfl, _, rfl, z, sg, rfl, rfl, hz, rfl, ?_⟩
        have e2 : decide (V.str (Txt.stripChars z sg) = V.str (Str.ofString "")) = only z sg := by
          rw [← strip_only]
          exact decide_eq_decide.mpr ⟨fun e => by injection e, fun e => by rw [e]; rfl⟩
        rw [e2]
        exact q
      · rw [decide_eq_false hm] at q ⊢
        exact iteF q
    | _ => exact iteF q

def spInt : Sp := fun vs H Q _ => ∃ (v : V) (d : PyData), vs = [v] ∧ Val H v d ∧ Q (.bl (isInt d)) H
theorem scInt : FnScope ["value"] ["value"] (defScope sInt) := ⟨rfl, rfl, rfl, by decide +kernel, rfl, by decide +kernel, by decide +kernel⟩
theorem isInt_abs (n : Int) : decide ((if n < 0 then -n else n) < 10 ^ 200) = isInt (.int n) := by
  show _ = decide (n.natAbs < 10 ^ 200)
  have e : ((10 ^ 200 : Nat) : Int) = 10 ^ 200 := by norm_cast
  rw [← e]
  generalize (10 ^ 200 : Nat) = M
  refine decide_eq_decide.mpr ?_
  split <;> omega
theorem ok_int {f : Addr} {fd : FuncData} (F : Fun K "is_integer" "is_integer" sInt f fd) (T : Txt K mg) : FnOk P w K mg base CX0 1 f fd ["value"] spInt := by
  refine F.ok scInt (fun vs H Q E h => ?_) (fun cdv A outer s H vs Q E hr h => ?_)
  · obtain ⟨v, d, rfl, _⟩ := h
    rfl
  · obtain ⟨v, d, rfl, hv, q⟩ := h
    obtain ⟨tl, hl⟩ := T.long
    refine ⟨_, pss_one (ps_ret (pe_and (pe_callB call_isi (by rfl) T.isi (by decide +kernel) (pa_cons (pv 0) (pa_cons (pe_bltn (v := .ty "int") (by rfl) T.int (by decide +kernel) rfl) pa_nil)))
      (pe_and (pe_not (pe_callB call_isi (by rfl) T.isi (by decide +kernel) (pa_cons (pv 0) (pa_cons (pe_bltn (v := .ty "bool") (by rfl) T.bool (by decide +kernel) rfl) pa_nil))))
      (pe_one (pe_cmpR op_lt (pe_callB call_abs (by rfl) T.abs (by decide +kernel) (pa_cons (pv 0) pa_nil)) (pe_glob (v := .int (10 ^ 200)) rfl hl ⟨_, rfl⟩) (nomark _)))))), ?_⟩
    obtain ⟨t, ty, k1, _, k3⟩ := Val.ty (K := K) hv
    refine ⟨_, rfl, _, _, _, _, _, rfl, .ty "int", ty, k1, intTy d, rfl, ?_⟩
    cases hv with
    | int n =>
      refine iteT ⟨_, rfl, _, _, _, _, _, rfl, .ty "bool", ty, k3, _, rfl, _, rfl, iteT ?_⟩
      refine ⟨_, rfl, n, rfl, _, _, rfl, rfl, ?_⟩
      show Q (.bl (decide ((if n < 0 then -n else n) < 10 ^ 200))) H
      rw [isInt_abs]
      exact q
    | bl b => exact iteT ⟨_, rfl, _, _, _, _, _, rfl, .ty "bool", ty, k3, _, rfl, _, rfl, iteF q⟩
    | _ => exact iteF q

end
/-- a def of the text, found under its name -/
structure Df (K : PySem.W.Frag) (mg : Str → Option Value) (x : Str) (st : Stmt) (ps : List Str) (f : Addr) (fd : FuncData) : Prop where
  F : Fun K x x st f fd
  m : mg x = some (.ref f)
  b : Binds K fd ps []

/-! ### rows of one-sign texts as data -/
abbrev onesD (l : List Nat) : List PyData := l.map fun c => PyData.str (one c)
theorem all_ones (K : PySem.W.Frag) (H : Hp) : ∀ l : List Nat, DpAll K H (ones l) (onesD l)
  | [] => .nil
  | c :: l => .cons (.str _) (all_ones K H l)
theorem eqv_ones : ∀ l m : List Nat, PyData.eqvAll (onesD l) (onesD m) = decide (l = m)
  | [], [] => rfl
  | [], _ :: _ => rfl
  | _ :: _, [] => rfl
  | c :: l, d :: m => by
    show ((one c == one d) && PyData.eqvAll (onesD l) (onesD m)) = _
    rw [eqv_ones l m]
    by_cases h : c = d
    · subst h
      simp
    · have e : (one c == one d) = false := beq_eq_false_iff_ne.mpr fun q => h (one_inj q)
      rw [e]
      simp [h]
theorem lay_all (l : List Nat) (h : ∀ c ∈ l, c < 128) : PyData.canLayAll0 (onesD l) = true := by
  induction l with
  | nil => rfl
  | cons c l ih =>
    have hc := h c List.mem_cons_self
    have e1 : PyData.canLay0 (.str (one c)) = true := by
      show (one c).cps.all (· < 0x110000) = true
      simp
      omega
    show (PyData.canLay0 (.str (one c)) && PyData.canLayAll0 (onesD l)) = true
    rw [ih fun d hd => h d (List.mem_cons_of_mem _ hd), e1]
    rfl
theorem deep_all (l : List Nat) : PyData.depthAll (onesD l) ≤ 1 := by
  induction l with
  | nil => decide
  | cons c l ih =>
    show max _ (PyData.depthAll (onesD l)) ≤ 1
    exact Nat.max_le.mpr ⟨(by show 0 ≤ 1; decide), ih⟩
theorem shaped_ones (l : List Nat) (h : ∀ c ∈ l, c < 128) : SeqAt.shaped (.list (onesD l)) = true := by
  unfold SeqAt.shaped
  rw [Bool.and_eq_true]
  refine ⟨lay_all l h, decide_eq_true ?_⟩
  show PyData.depthAll (onesD l) + 1 ≤ 64
  have := deep_all l
  omega

section
variable {P : Program} {w : World} {K : PySem.W.Frag} {mg : Str → Option Value} {base : Heap}
theorem scLetters : FnScope ["value"] ["value"] (defScope sLetters) := ⟨rfl, rfl, rfl, by decide +kernel, rfl, by decide +kernel, by decide +kernel⟩
def spLetters : Sp := fun vs H Q _ => ∃ (v : V) (d : PyData), vs = [v] ∧ Val H v d ∧ Ok d ∧ ∀ H', Same H H' → Q (.bl (letters d)) H'
theorem same_upd {H : Hp} {p : Addr} {o : HO} (h : H p = none) : Same H (upd H p o) := fun b u e => by
  rw [upd_ne (ne_of_none e h)]
  exact e
theorem ok_letters {f fH : Addr} {fd fdH : FuncData} (F : Fun K "is_letters" "is_letters" sLetters f fd) (T : Txt K mg) (DH : Df K mg "has_only" sHas ["value", "signs", "most"] fH fdH) :
    FnOk P w K mg base CX0 2 f fd ["value"] spLetters := by
  have G := ok_has (P := P) (w := w) (base := base) DH.F T
  refine F.ok scLetters (fun vs H Q E h => ?_) (fun cdv A outer s H vs Q E hr h => ?_)
  · obtain ⟨v, d, rfl, _⟩ := h
    rfl
  · obtain ⟨v, d, rfl, hv, hd, q⟩ := h
    obtain ⟨ta, ha⟩ := T.alpha
    obtain ⟨tn, hn⟩ := T.mLet
    refine ⟨_, pss_one (ps_ret (pe_and (pe_call G hr (by rfl) DH.m DH.F.kp DH.b .nil pass0 (pa_cons (pv 0) (pa_cons (pe_glob (v := .str alpha) rfl ha ⟨_, rfl⟩) (pa_cons (pe_glob (v := .int 3) rfl hn ⟨_, rfl⟩) pa_nil))))
      (pe_and (pe_cmpR op_ne (pv 0) pe_str (nomark _))
      (pe_one (pe_cmpR (op_eqD hr.units) (pe_callTy (cr_listTx rfl) (by rfl) T.list (by decide +kernel) (pa_cons (pv 0) pa_nil))
        (pe_callB (cr_sortTx rfl) (by rfl) T.sorted (by decide +kernel) (pa_cons (pe_callTy (cr_setTx rfl) (by rfl) T.set (by decide +kernel) (pa_cons (pv 0) pa_nil)) pa_nil)) (nomark _)))))), ?_⟩
    refine ⟨_, rfl, v, d, alpha, 3, rfl, hv, hd, _, rfl, ?_⟩
    cases hv with
    | str z =>
      have hz : Fine z := hd
      have e0 : letters (.str z) = (has alpha 3 (.str z) && decide (z ≠ Str.empty) && rise z) := rfl
      rw [e0] at q
      cases hb : has alpha 3 (.str z) with
      | true =>
        rw [hb] at q
        refine iteT ⟨_, rfl, rfl, ?_⟩
        have e : (!decide (V.str z = V.str (Str.ofString ""))) = decide (z ≠ Str.empty) := by
          rw [← decide_not]
          exact decide_eq_decide.mpr ⟨fun h e => h (by rw [e]; rfl), fun h e => h (by injection e)⟩
        refine ⟨_, rfl, ?_⟩
        rw [e]
        by_cases hne : z ≠ Str.empty
        · rw [decide_eq_true hne] at q ⊢
          refine iteT ?_
          refine ⟨_, rfl, z, rfl, fine_line hz, fun p1 n1 => ?_⟩
          refine ⟨_, rfl, z, rfl, hz.few, fun p2 n2 => ?_⟩
          refine ⟨p2, cds z, rfl, upd_same, hz.few, fun p3 n3 => ?_⟩
          have s1 : Same H (upd H p1 (.lst (ones (cds z)))) := same_upd n1
          have s2 := same_upd (o := TO w p2 (met [] (cds z))) n2
          have s3 := same_upd (o := .lst (ones (ups (cds z)))) n3
          have h1 := s3 _ _ (s2 _ _ (upd_same (H := H) (a := p1) (o := .lst (ones (cds z)))))
          refine ⟨.list (onesD (cds z)), .list (onesD (ups (cds z))), .lst (SqL.of h1) (all_ones _ _ _), .lst (SqL.of upd_same) (all_ones _ _ _), shaped_ones _ hz.plain, shaped_ones _ (fun c hc => hz.plain c ((ups_mem _ _).mp hc)), ?_⟩
          have e2 : PyData.eqv (.list (onesD (cds z))) (.list (onesD (ups (cds z)))) = rise z := eqv_ones _ _
          rw [e2]
          exact q _ ((s1.trans s2).trans s3)
        · have hne' : decide (z ≠ Str.empty) = false := decide_eq_false hne
          rw [hne'] at q ⊢
          exact iteF (q _ (Same.refl H))
      | false =>
        rw [hb] at q
        exact iteF (q _ (Same.refl H))
    | _ => exact iteF (q _ (Same.refl H))

/-! ### the law's drawer -/
/-- a drawer: three ints -/
def Cup (H : Hp) (c : Addr) : Prop := ∃ a0 a1 a2 : Int, H c = some (.lst [.int a0, .int a1, .int a2])
/-- all but what stands at c stays -/
def But (c : Addr) (H H' : Hp) : Prop := ∀ b o, b ≠ c → H b = some o → H' b = some o
theorem But.refl (c : Addr) (H : Hp) : But c H H := fun _ _ _ e => e
theorem But.trans {c : Addr} {H H1 H2 : Hp} (a : But c H H1) (b : But c H1 H2) : But c H H2 := fun x o n e => b x o n (a x o n e)
theorem But.of {c : Addr} {H H' : Hp} (s : Same H H') : But c H H' := fun b o _ e => s b o e
theorem But.put {c : Addr} {H : Hp} {o : HO} : But c H (upd H c o) := fun b u n e => by rw [upd_ne n]; exact e

def spCup (K : PySem.W.Frag) : Sp := fun vs H Q _ => ∃ (a : Addr) (ns : List Int) (k : Nat), vs = [.ref a, .int k] ∧ SqL K H a (ns.map V.int) ∧ ns.length ≤ 63 ∧ k ≤ 100 ∧ ∀ p H', H p = none → Same H H' → Cup H' p → Q (.ref p) H'
theorem scCup : FnScope ["_law_script", "_law_at", "_law_cell", "_law_great", "_law_blend"] ["_law_script", "_law_at"] (defScope sCup) := ⟨rfl, rfl, rfl, by decide +kernel, rfl, by decide +kernel, by decide +kernel⟩
theorem ok_cup {f : Addr} {fd : FuncData} (F : Fun K "_law_cup" "_law_cup" sCup f fd) (T : Txt K mg) : FnOk P w K mg base CX0 1 f fd ["_law_script", "_law_at"] (spCup K) := by
  refine F.ok scCup (fun vs H Q E h => ?_) (fun cdv A outer s H vs Q E hr h => ?_)
  · obtain ⟨a, ns, k, rfl, _⟩ := h
    rfl
  · obtain ⟨a, ns, k, rfl, hS, hlen, hk, q⟩ := h
    refine ⟨_, pss_cons (ps_set (i := 2) scCup.nd rfl (Or.inl rfl) (pe_ifExp (pt_cmpR op_lt (pv 1) (pe_callB call_len (by rfl) T.len PySem.boot_len (pa_cons (pv 0) pa_nil)) (nomark _))
        (pe_ix ix_list (pv 0) (pv 1) (fun _ _ => rfl)) (pe_op op_add (pe_op op_mul pe_int (pv 1)) pe_int)))
      (pss_cons (ps_set (i := 3) scCup.nd rfl (Or.inl rfl) (pe_op op_modN (pe_callTy call_int1 (by rfl) T.int (by decide +kernel) (pa_cons (pe_callB call_abs (by rfl) T.abs (by decide +kernel) (pa_cons (pv 2) pa_nil)) pa_nil))
        (pe_op op_powW (pe_op op_pow pe_int pe_int) pe_int)))
      (pss_cons (ps_set (i := 4) scCup.nd rfl (Or.inl rfl) (pe_op op_add (pe_op op_add (pe_op op_add
          (pe_op op_mul (pe_op op_modN (pe_callTy call_int1 (by rfl) T.int (by decide +kernel) (pa_cons (pv 3) pa_nil)) pe_int) pe_int) (pe_op op_mul pe_int (pv 1)))
          (pe_op op_mul pe_int (pe_callTy call_int1 (by rfl) T.int (by decide +kernel) (pa_cons (pe_cmpR op_lt (pv 2) pe_int (nomark _)) pa_nil)))) pe_int))
      (pss_one (ps_ret (pe_lst (pa_cons (pe_callB (call_max2 rfl) (by rfl) T.max (by decide +kernel) (pa_cons pe_int (pa_cons (pe_op op_sub (pv 3) (pe_op op_pow pe_int pe_int)) pa_nil)))
        (pa_cons (pe_op op_modN (pe_callTy call_int1 (by rfl) T.int (by decide +kernel) (pa_cons (pv 4) pa_nil)) pe_int) (pa_cons pe_int pa_nil)))))))), ?_⟩
    refine ⟨_, rfl, _, rfl, _, ns.length, rfl, .inl ⟨_, hS, by rw [List.length_map]⟩, _, _, rfl, rfl, _, rfl, ?_⟩
    refine ite2 (fun hc => ?_) (fun _ => ?_)
    · have hk2 : k < ns.length := by
        have := of_decide_eq_true hc
        omega
      refine ⟨_, rfl, _, rfl, a, _, _, .int ns[k], rfl, rfl, hS, atI_nat (by rw [List.getElem?_map, List.getElem?_eq_getElem hk2]; rfl), ?_⟩
      refine ⟨_, rfl, _, rfl, .inl ⟨_, rfl, _, _, rfl, rfl, ⟨by decide, by decide, by decide⟩, _, _, rfl, rfl, ⟨by decide, by decide +kernel⟩, _, _, rfl, rfl, (show (((10 : Int) ^ Int.toNat 61) ^ Int.toNat 11) ≠ 0 by decide +kernel), ?_⟩⟩
      refine ⟨_, rfl, .inl ⟨_, rfl, _, _, rfl, rfl, (show (2147483179 : Int) ≠ 0 by decide), _, _, rfl, rfl, .inr ⟨by decide, by decide⟩, _, rfl, _, _, rfl, rfl, .inl ⟨by decide, by decide⟩, _, _, rfl, rfl, _, rfl, _, _, rfl, rfl,
        .inr ⟨_, rfl, _, _, rfl, rfl, .inl ⟨by decide, by decide⟩, _, _, rfl, rfl, _, _, rfl, rfl, ?_⟩⟩⟩
      refine ⟨_, rfl, _, _, rfl, rfl, ⟨by decide, by decide, by decide⟩, _, _, rfl, rfl, _, _, rfl, _, rfl, .inl ⟨_, rfl, _, _, rfl, rfl, (show (2305843009213693907 : Int) ≠ 0 by decide), by show 3 ≤ sizeLine; decide, fun p hp => ?_⟩⟩
      exact q p _ hp (same_upd hp) ⟨_, _, _, upd_same⟩
    · refine ⟨_, rfl, _, _, rfl, rfl, .inl ⟨by decide, by decide⟩, _, _, rfl, rfl, ?_⟩
      refine ⟨_, rfl, _, rfl, .inl ⟨_, rfl, _, _, rfl, rfl, ⟨by decide, by decide, by decide⟩, _, _, rfl, rfl, ⟨by decide, by decide +kernel⟩, _, _, rfl, rfl, (show (((10 : Int) ^ Int.toNat 61) ^ Int.toNat 11) ≠ 0 by decide +kernel), ?_⟩⟩
      refine ⟨_, rfl, .inl ⟨_, rfl, _, _, rfl, rfl, (show (2147483179 : Int) ≠ 0 by decide), _, _, rfl, rfl, .inr ⟨by decide, by decide⟩, _, rfl, _, _, rfl, rfl, .inl ⟨by decide, by decide⟩, _, _, rfl, rfl, _, rfl, _, _, rfl, rfl,
        .inr ⟨_, rfl, _, _, rfl, rfl, .inl ⟨by decide, by decide⟩, _, _, rfl, rfl, _, _, rfl, rfl, ?_⟩⟩⟩
      refine ⟨_, rfl, _, _, rfl, rfl, ⟨by decide, by decide, by decide⟩, _, _, rfl, rfl, _, _, rfl, _, rfl, .inl ⟨_, rfl, _, _, rfl, rfl, (show (2305843009213693907 : Int) ≠ 0 by decide), by show 3 ≤ sizeLine; decide, fun p hp => ?_⟩⟩
      exact q p _ hp (same_upd hp) ⟨_, _, _, upd_same⟩

def spBit : Sp := fun vs H Q _ => ∃ (c : Addr) (m : Int), vs = [.ref c, .int m] ∧ Cup H c ∧ 0 < m ∧ m.natAbs < 2 ^ 9000 ∧ ∀ r H', 0 ≤ r → r < m → Cup H' c → But c H H' → Q (.int r) H'
theorem scBit : FnScope ["_law_cup_here", "_law_much", "_law_found", "_law_first", "_law_later"] ["_law_cup_here", "_law_much"] (defScope sBit) := ⟨rfl, rfl, rfl, by decide +kernel, rfl, by decide +kernel, by decide +kernel⟩
theorem ok_bit {f : Addr} {fd : FuncData} (F : Fun K "_law_bit" "_law_bit" sBit f fd) (T : Txt K mg) : FnOk P w K mg base CX0 1 f fd ["_law_cup_here", "_law_much"] spBit := by
  refine F.ok scBit (fun vs H Q E h => ?_) (fun cdv A outer s H vs Q E hr h => ?_)
  · obtain ⟨c, m, rfl, _⟩ := h
    rfl
  · obtain ⟨c, m, rfl, ⟨a0, a1, a2, hc⟩, hm, hm2, q⟩ := h
    refine ⟨_, pss_cons (ps_if (pt_cmpR op_gt (pe_ix ix_list (pv 0) pe_int (fun _ _ => rfl)) pe_int (nomark _))
        (pss_cons (ps_set (i := 2) scBit.nd rfl (Or.inl rfl) (pe_op op_modN (pe_callTy call_int1 (by rfl) T.int (by decide +kernel) (pa_cons (pe_ix ix_list (pv 0) pe_int (fun _ _ => rfl)) pa_nil)) (pv 1)))
        (pss_cons (ps_asg (pe_op op_fdivW (pe_ix ix_list (pv 0) pe_int (fun _ _ => rfl)) (pv 1)) (pg_sub (pv 0) pe_int set_list))
        (pss_one (ps_ret (pv 2))))) pss_nil)
      (pss_cons (ps_asg (pe_op op_add (pe_ix ix_list (pv 0) pe_int (fun _ _ => rfl)) pe_int) (pg_sub (pv 0) pe_int set_list))
      (pss_cons (ps_set (i := 3) scBit.nd rfl (Or.inl rfl) (pe_op op_modN (pe_callTy call_int1 (by rfl) T.int (by decide +kernel) (pa_cons (pe_op op_add (pe_ix ix_list (pv 0) pe_int (fun _ _ => rfl))
          (pe_op op_mul pe_int (pe_ix ix_list (pv 0) pe_int (fun _ _ => rfl)))) pa_nil)) pe_int))
      (pss_cons (ps_set (i := 4) scBit.nd rfl (Or.inl rfl) (pe_op op_add (pe_op op_mul (pe_op op_modN (pe_callTy call_int1 (by rfl) T.int (by decide +kernel) (pa_cons (pe_op op_mul (pv 3) (pv 3)) pa_nil)) pe_int) (pv 3))
          (pe_op op_mul pe_int (pe_ix ix_list (pv 0) pe_int (fun _ _ => rfl)))))
      (pss_one (ps_ret (pe_op op_modN (pe_callTy call_int1 (by rfl) T.int (by decide +kernel) (pa_cons (pe_op op_fdivN (pe_op op_modN (pe_callTy call_int1 (by rfl) T.int (by decide +kernel) (pa_cons (pv 4) pa_nil)) pe_int) pe_int) pa_nil)) (pv 1))))))), ?_⟩
    have at0 : ∀ {x y z : V}, atI [x, y, z] (0 : Int) = some x := rfl
    have at1 : ∀ {x y z : V}, atI [x, y, z] (1 : Int) = some y := rfl
    have at2 : ∀ {x y z : V}, atI [x, y, z] (2 : Int) = some z := rfl
    have rest : ∀ i : Int, 0 ≤ i.fmod m ∧ i.fmod m < m := fun i => by
      rw [Int.fmod_eq_emod_of_nonneg i (Int.le_of_lt hm)]
      exact ⟨Int.emod_nonneg i (Int.ne_of_gt hm), Int.emod_lt_of_pos i hm⟩
    refine ⟨_, rfl, c, _, _, _, rfl, rfl, SqL.of hc, at0, _, _, rfl, rfl, _, rfl, ?_⟩
    refine ite2 (fun _ => ?_) (fun _ => ?_)
    · refine ⟨_, rfl, c, _, _, _, rfl, rfl, SqL.of hc, at0, .inl ⟨_, rfl, _, rfl, _, _, rfl, rfl, (Int.ne_of_gt hm), ?_⟩⟩
      refine ⟨_, rfl, c, _, _, _, rfl, rfl, SqL.of hc, at0, _, rfl, _, _, rfl, rfl, wide_div hm hm2 (by decide) (by decide), ?_⟩
      refine ⟨_, rfl, c, _, _, 0, rfl, rfl, hc, rfl, ?_⟩
      exact ⟨_, rfl, q _ _ (rest _).1 (rest _).2 ⟨_, _, _, upd_same⟩ But.put⟩
    · refine ⟨_, rfl, c, _, _, _, rfl, rfl, SqL.of hc, at2, _, _, rfl, rfl, _, rfl, c, _, _, 2, rfl, rfl, hc, rfl, ?_⟩
      have hc2 : (upd H c (.lst ([.int a0, .int a1, .int a2].set 2 (.int (a2 + 1))))) c = some (.lst [.int a0, .int a1, .int (a2 + 1)]) := upd_same
      refine ⟨_, rfl, c, _, _, _, rfl, rfl, SqL.of hc2, at1, _, rfl, c, _, _, _, rfl, rfl, SqL.of hc2, at2, _, _, rfl, rfl, .inl ⟨by decide, by decide⟩, _, _, rfl, rfl, .inl ⟨_, rfl, _, _, rfl, rfl, (show (2305843009213693951 : Int) ≠ 0 by decide), ?_⟩⟩
      have f1 := Int.emod_nonneg (a1 + 1000541 * (a2 + 1)) (b := 2305843009213693951) (by decide)
      have f2 := Int.emod_lt_of_pos (a1 + 1000541 * (a2 + 1)) (b := 2305843009213693951) (by decide)
      rw [← Int.fmod_eq_emod_of_nonneg (a1 + 1000541 * (a2 + 1)) (b := 2305843009213693951) (by decide)] at f1 f2
      have f3 : -(2 ^ 64 : Int) < Int.fmod (a1 + 1000541 * (a2 + 1)) 2305843009213693951 ∧ Int.fmod (a1 + 1000541 * (a2 + 1)) 2305843009213693951 < 2 ^ 64 :=
        ⟨Int.lt_of_lt_of_le (by decide) f1, Int.lt_trans f2 (by decide)⟩
      refine ⟨_, rfl, _, rfl, _, _, rfl, rfl, .inl f3, .inl ⟨_, rfl, _, _, rfl, rfl, (show (2305843009213693921 : Int) ≠ 0 by decide), _, rfl, _, _, rfl, rfl, .inr f3, _, rfl, c, _, _, _, rfl, rfl, SqL.of hc2, at2,
        _, _, rfl, rfl, .inl ⟨by decide, by decide⟩, _, _, rfl, rfl, ?_⟩⟩
      refine ⟨_, rfl, .inl ⟨_, rfl, _, _, rfl, rfl, (show (2305843009213693907 : Int) ≠ 0 by decide), _, _, rfl, rfl, (show (16384 : Int) ≠ 0 ∧ (16384 : Int).natAbs < 1073741824 by decide), .inl ⟨_, rfl, _, rfl, _, _, rfl, rfl, (Int.ne_of_gt hm), ?_⟩⟩⟩
      exact q _ _ (rest _).1 (rest _).2 ⟨_, _, _, hc2⟩ But.put
/-! ### drawing -/
theorem scPick : FnScope ["_law_cup_here", "_law_items"] ["_law_cup_here", "_law_items"] (defScope sPick) := ⟨rfl, rfl, rfl, by decide +kernel, rfl, by decide +kernel, by decide +kernel⟩
def spPick : Sp := fun vs H Q _ => ∃ (c : Addr), Cup H c ∧
  ((∃ (p : Addr) (xs : List V), vs = [.ref c, .ref p] ∧ p ≠ c ∧ H p = some (.lst xs) ∧ 0 < xs.length ∧ xs.length < 100 ∧ ∀ x H', x ∈ xs → Cup H' c → But c H H' → Q x H') ∨
   (∃ z : Str, vs = [.ref c, .str z] ∧ 0 < z.length ∧ z.length < 100 ∧ ∀ s H', s ∈ cds z → Cup H' c → But c H H' → Q (.str (one s)) H'))
theorem ok_pick {f fB : Addr} {fd fdB : FuncData} (F : Fun K "_law_pick" "_law_pick" sPick f fd) (T : Txt K mg) (DB : Df K mg "_law_bit" sBit ["_law_cup_here", "_law_much"] fB fdB) :
    FnOk P w K mg base CX0 2 f fd ["_law_cup_here", "_law_items"] spPick := by
  have G := ok_bit (P := P) (w := w) (base := base) DB.F T
  refine F.ok scPick (fun vs H Q E h => ?_) (fun cdv A outer s H vs Q E hr h => ?_)
  · obtain ⟨c, _, h⟩ := h
    rcases h with ⟨p, xs, rfl, _⟩ | ⟨z, rfl, _⟩ <;> rfl
  · obtain ⟨c, hc, h⟩ := h
    refine ⟨_, pss_one (ps_ret (pe_ix ix_seq (pv 1) (pe_call G hr (by rfl) DB.m DB.F.kp DB.b .nil pass0 (pa_cons (pv 0) (pa_cons (pe_callB call_len (by rfl) T.len PySem.boot_len (pa_cons (pv 1) pa_nil)) pa_nil))) (fun _ _ => rfl))), ?_⟩
    have small : ∀ n : Nat, n < 100 → (n : Int).natAbs < 2 ^ 9000 := fun n hn => Nat.lt_of_lt_of_le (show (n : Int).natAbs < 2 ^ 7 by omega) (Nat.pow_le_pow_right (by decide) (by decide))
    rcases h with ⟨p, xs, rfl, hpc, hp, h0, h1, q⟩ | ⟨z, rfl, h0, h1, q⟩
    · refine ⟨_, rfl, _, rfl, _, rfl, _, xs.length, rfl, .inl ⟨_, SqL.of hp, rfl⟩, c, xs.length, rfl, hc, by omega, small _ h1, fun r H' r0 r1 hc' but => ?_⟩
      obtain ⟨n, rfl⟩ := Int.eq_ofNat_of_zero_le r0
      have hn : n < xs.length := by omega
      exact .inl ⟨p, xs, _, xs[n], rfl, rfl, SqL.of (but _ _ hpc hp), atI_nat (List.getElem?_eq_getElem hn), q _ _ (List.getElem_mem hn) hc' but⟩
    · have hl : z.length ≤ sizeLine := Nat.le_trans (Nat.le_of_lt h1) (by decide)
      refine ⟨_, rfl, _, rfl, _, rfl, _, z.length, rfl, ⟨hl, rfl⟩, c, z.length, rfl, hc, by omega, small _ h1, fun r H' r0 r1 hc' but => ?_⟩
      obtain ⟨n, rfl⟩ := Int.eq_ofNat_of_zero_le r0
      have hn : n < (cds z).length := by rw [cds_len]; omega
      exact .inr (.inr ⟨z, _, (cds z)[n], rfl, rfl, hl, atI_nat (List.getElem?_eq_getElem hn), q _ _ (List.getElem_mem hn) hc' but⟩)

def Signs (z : Str) : Prop := z = "ab" ∨ z = "xy" ∨ z = "a" ∨ z = "abc"
def spSigns : Sp := fun vs H Q _ => ∃ (c : Addr), vs = [.ref c] ∧ Cup H c ∧ ∀ z H', Signs z → Cup H' c → But c H H' → Q (.str z) H'
theorem scSigns : FnScope ["_law_cup_here"] ["_law_cup_here"] (defScope sSigns) := ⟨rfl, rfl, rfl, by decide +kernel, rfl, by decide +kernel, by decide +kernel⟩
theorem Cup.same {H H' : Hp} {c : Addr} (s : Same H H') (h : Cup H c) : Cup H' c := let ⟨a, b, d, e⟩ := h; ⟨a, b, d, s _ _ e⟩
theorem Cup.ne {H : Hp} {c p : Addr} (h : Cup H c) (n : H p = none) : p ≠ c := by
  obtain ⟨a, b, d, e⟩ := h
  exact (ne_of_none e n).symm
theorem ok_signs {f fB fP : Addr} {fd fdB fdP : FuncData} (F : Fun K "_law_signs" "_law_signs" sSigns f fd) (T : Txt K mg) (DB : Df K mg "_law_bit" sBit ["_law_cup_here", "_law_much"] fB fdB)
    (DP : Df K mg "_law_pick" sPick ["_law_cup_here", "_law_items"] fP fdP) : FnOk P w K mg base CX0 3 f fd ["_law_cup_here"] spSigns := by
  have G := ok_pick (P := P) (w := w) (base := base) DP.F T DB
  refine F.ok scSigns (fun vs H Q E h => ?_) (fun cdv A outer s H vs Q E hr h => ?_)
  · obtain ⟨c, rfl, _⟩ := h
    rfl
  · obtain ⟨c, rfl, hc, q⟩ := h
    refine ⟨_, pss_one (ps_ret (pe_call G hr (by rfl) DP.m DP.F.kp DP.b .nil pass0 (pa_cons (pv 0) (pa_cons (pe_lst (pa_cons pe_str (pa_cons pe_str (pa_cons pe_str (pa_cons pe_str (pa_cons pe_str (pa_cons pe_str pa_nil))))))) pa_nil)))), ?_⟩
    refine ⟨_, rfl, by show 6 ≤ sizeLine; decide, fun p np => ⟨c, hc.same (same_upd np), .inl ⟨p, _, rfl, hc.ne np, upd_same, by decide, by decide, fun x H' hx hc' but => ?_⟩⟩⟩
    have b2 : But c H H' := (But.of (same_upd np)).trans but
    simp only [List.mem_cons, List.not_mem_nil, or_false] at hx
    rcases hx with rfl | rfl | rfl | rfl | rfl | rfl
    · exact q _ _ (.inl rfl) hc' b2
    · exact q _ _ (.inl rfl) hc' b2
    · exact q _ _ (.inl rfl) hc' b2
    · exact q _ _ (.inr (.inl rfl)) hc' b2
    · exact q _ _ (.inr (.inr (.inl rfl))) hc' b2
    · exact q _ _ (.inr (.inr (.inr rfl))) hc' b2
end
theorem signs_letters {sg : Str} (h : Signs sg) : letters (.str sg) = true := by
  have go : ∀ z : Str, (decide (z.length ≤ 3) && only z alpha && decide (z ≠ Str.empty)) = true → (cds z).Pairwise (· < ·) → letters (.str z) = true := fun z h1 h2 => by
    show (decide (z.length ≤ 3) && only z alpha && decide (z ≠ Str.empty) && rise z) = true
    rw [h1, Bool.true_and]
    exact decide_eq_true (up_eq h2 (ups_up _) fun c => (ups_mem _ c).symm)
  rcases h with rfl | rfl | rfl | rfl <;> exact go _ (by decide +kernel) (by decide +kernel)
theorem signs_fine {sg : Str} (h : Signs sg) : Fine sg := by
  rcases h with rfl | rfl | rfl | rfl <;> exact ⟨by decide +kernel, by decide +kernel, by decide +kernel⟩
section
variable {P : Program} {w : World} {K : PySem.W.Frag} {mg : Str → Option Value} {base : Heap}
def spPassL : Sp := fun vs H Q _ => ∃ (sg : Str), vs = [.str sg] ∧ Signs sg ∧ ∀ H', Same H H' → Q .non H'
theorem scCheck : FnScope ["value"] ["value"] (defScope sCheck) := ⟨rfl, rfl, rfl, by decide +kernel, rfl, by decide +kernel, by decide +kernel⟩
theorem ok_passL {f fH fL : Addr} {fd fdH fdL : FuncData} (F : Fun K "check_letters" "check_letters" sCheck f fd) (T : Txt K mg) (DH : Df K mg "has_only" sHas ["value", "signs", "most"] fH fdH)
    (DL : Df K mg "is_letters" sLetters ["value"] fL fdL) : FnOk P w K mg base CX0 3 f fd ["value"] spPassL := by
  have G := ok_letters (P := P) (w := w) (base := base) DL.F T DH
  refine F.ok scCheck (fun vs H Q E h => ?_) (fun cdv A outer s H vs Q E hr h => ?_)
  · obtain ⟨v, rfl, _⟩ := h
    rfl
  · obtain ⟨sg, rfl, hs, q⟩ := h
    refine ⟨_, pss_one (ps_if (pt_not (pt_val (pe_call G hr (by rfl) DL.m DL.F.kp DL.b .nil pass0 (pa_cons (pv 0) pa_nil)))) (pss_one ps_never) pss_nil), ?_⟩
    refine ⟨_, rfl, .str sg, .str sg, rfl, .str sg, signs_fine hs, fun H' s1 => ⟨_, rfl, ?_⟩⟩
    rw [signs_letters hs]
    exact iteF (q _ s1)
end
end K58

set_option Elab.async false
set_option linter.all false
set_option maxRecDepth 100000
set_option maxHeartbeats 3200000
/-! a * b, ~a and the like by an own operator of a class of the text -/
namespace Ow
open PySem PySem.Spec PyProof.Rows L2
theorem no_ni {v : V} {u : Value} (r : RelV v u) : u ≠ .notImplemented := by
  rintro rfl
  cases v <;> first | (obtain ⟨_, r⟩ := r; exact Value.noConfusion r) | exact Value.noConfusion r
section
variable {X : Cx} {CX : CXT} {C f : Addr} {fd : FuncData} {ps : List Str} {sp : Sp} {E : XK} {k : Nat} {op : Operator}
/-- both of the class at C: what the operator's def promises -/
def rOwn (C : Addr) (sp : Sp) (E : XK) : R2 := fun x y H Q => ∃ a b dx dy fs gs, x = .ref a ∧ y = .ref b ∧ H a = some (.ins C dx fs) ∧ H b = some (.ins C dy gs) ∧ sp [.ref a, .ref b] H Q E
/-- a call of such a def from where the operator stands -/
theorem own_call (F : FnOk X.prog X.w X.K X.mg X.base CX k f fd ps sp) (hr : Room k X.A) (hb : Binds X.K fd ps []) (hx : Passes CX X E) {pins : List (Addr × Obj)} {s : Shared} {σ : L2.St} {H : Hp} {Q : VK} {us : List Value} {vs : List V}
    (I : Inv X pins σ H s) (r : Vals vs us) (h : sp vs H Q E) : wpAny (model X.prog X.w) X.A (call (.ref f) us) (EP X pins σ Q) X.xe s := by
  have hl := F.len _ _ _ _ h
  refine wpAny_call (codeAny_mono (F.run X.A X.stack s H ⟨us, []⟩ us vs Q E hr I.env0 (by
    have := hb s us I.kIn (by rw [List.append_nil, ← r.length]; exact hl)
    simpa using this) r h) fun r s' hq => ?_)
  cases r with
  | error e => exact hx pins σ H s e s' I hq
  | ok fl =>
    cases fl with
    | ret w => exact I.after hq
    | next => exact False.elim hq
    | brk => exact False.elim hq
    | cont => exact False.elim hq
theorem op_own (F : FnOk X.prog X.w X.K X.mg X.base CX k f fd ps sp) (hr : Room k X.A) (hc : PySem.W.selfFirst X.K C = true) (hs : PySem.W.findIn X.K (.ref C) (PySem.dunder op.info.2) = some (some (.ref f))) (hf : PySem.W.isFn X.K (.ref f) = true)
    (hb : Binds X.K fd ps []) (hx : Passes CX X E) : OpR X (binaryOp op) (rOwn C sp E) := by
  intro pins s σ H x y u v Q I rx ry hq
  obtain ⟨a, b, dx, dy, fs, gs, rfl, rfl, ha, hb', h⟩ := hq
  cases rx
  cases ry
  obtain ⟨mA, J, _⟩ := ins_get I.hok ha
  obtain ⟨mB, J', _⟩ := ins_get I.hok hb'
  obtain ⟨od, J, _⟩ := J.look
  obtain ⟨od', J', _⟩ := J'.look
  obtain ⟨m, hF⟩ := I.fr
  refine PySem.W.binop_K hF I.ok.mod.kin J J'.type hc hs hf ?_
  refine wpAny_mono (own_call F hr hb hx I (vs := [V.ref a, V.ref b]) (.cons rfl (.cons rfl .nil)) h) (fun w s' z => ?_) fun _ _ e => e
  obtain ⟨v, H', I', rv, q⟩ := z
  have := no_ni rv
  cases w <;> first | exact absurd rfl this | exact ⟨v, H', I', rv, q⟩
/-- a op v, v of a built-in type (an own operator that refuses such) -/
def rOwnT (K : PySem.W.Frag) (C : Addr) (T : String) (sp : Sp) (E : XK) : R2 := fun x y H Q => ∃ a dx fs, x = .ref a ∧ H a = some (.ins C dx fs) ∧ (∀ u, RelV y u → typeOf u = pure (.type T)) ∧ sp [.ref a, y] H Q E
theorem op_ownT {T : String} {fo ro rc : Option Value} (F : FnOk X.prog X.w X.K X.mg X.base CX k f fd ps sp) (hr : Room k X.A) (hc : PySem.W.selfFirst X.K C = true) (hs : PySem.W.findIn X.K (.ref C) (PySem.dunder op.info.2) = some (some (.ref f))) (hf : PySem.W.isFn X.K (.ref f) = true)
    (hrc : PySem.W.findIn X.K (.ref C) (dunderR op.info.2) = some rc) (hp : rc = none ∨ ∃ g : Addr, rc = some (.ref g)) (h1 : PySem.W.findIn X.K (.type T) (PySem.dunder op.info.2) = some fo) (h2 : PySem.W.findIn X.K (.type T) (dunderR op.info.2) = some ro)
    (hsub : PySem.W.subIn X.K (.type T) (.ref C) = some false) (hb : Binds X.K fd ps []) (hx : Passes CX X E) : OpR X (binaryOp op) (rOwnT X.K C T sp E) := by
  intro pins s σ H x y u v Q I rx ry hq
  obtain ⟨a, dx, fs, rfl, ha, ht, h⟩ := hq
  cases rx
  obtain ⟨mA, J, _⟩ := ins_get I.hok ha
  obtain ⟨od, J, _⟩ := J.look
  obtain ⟨m, hF⟩ := I.fr
  refine PySem.W.ksp_binT hF I.ok.mod.kin J (ht _ ry) hc hs hf hrc hp h1 h2 hsub ?_
  refine wpAny_mono (own_call F hr hb hx I (vs := [V.ref a, y]) (.cons rfl (.cons ry .nil)) h) (fun w s' z => ?_) fun _ _ e => e
  obtain ⟨v, H', I', rv, q⟩ := z
  have := no_ni rv
  cases w <;> first | exact absurd rfl this | exact ⟨v, H', I', rv, q⟩
/-- ~a, -a by the text's own operator -/
def rOwn1 (C : Addr) (sp : Sp) (E : XK) : V → Hp → VK → Prop := fun x H Q => ∃ a dx fs, x = .ref a ∧ H a = some (.ins C dx fs) ∧ sp [.ref a] H Q E
theorem un_own (F : FnOk X.prog X.w X.K X.mg X.base CX k f fd ps sp) (hr : Room k X.A) (hs : PySem.W.findIn X.K (.ref C) "__invert__" = some (some (.ref f))) (hf : PySem.W.isFn X.K (.ref f) = true)
    (hb : Binds X.K fd ps []) (hx : Passes CX X E) : UnR X (unaryOp .Invert) (rOwn1 C sp E) := by
  intro pins s σ H x u Q I rx hq
  obtain ⟨a, dx, fs, rfl, ha, h⟩ := hq
  cases rx
  obtain ⟨mA, J, _⟩ := ins_get I.hok ha
  obtain ⟨od, J, _⟩ := J.look
  obtain ⟨m, hF⟩ := I.fr
  exact PySem.W.ksp_inv hF I.ok.mod.kin J hs hf (own_call F hr hb hx I (vs := [V.ref a]) (.cons rfl .nil) h)
/-- the same call one step further within -/
theorem own_call1 {A : Around} (hA : A.frames = X.A.frames) (F : FnOk X.prog X.w X.K X.mg X.base CX k f fd ps sp) (hr : Room k A) (hb : Binds X.K fd ps []) (hx : Passes CX X E) {pins : List (Addr × Obj)} {s : Shared} {σ : L2.St} {H : Hp} {Q : VK} {us : List Value} {vs : List V}
    (I : Inv X pins σ H s) (r : Vals vs us) (h : sp vs H Q E) : wpAny (model X.prog X.w) A (call (.ref f) us) (EP X pins σ Q) X.xe s := by
  have hl := F.len _ _ _ _ h
  have e0 : Env0 X.prog X.w X.K X.mg X.base A X.stack s H := by
    have e := I.env0
    exact ⟨by rw [hA]; exact e.frames, e.mod, e.bs, e.bsz, e.funs, e.frf, e.hok, e.bare⟩
  refine wpAny_call (codeAny_mono (F.run A X.stack s H ⟨us, []⟩ us vs Q E hr e0 (by
    have := hb s us I.kIn (by rw [List.append_nil, ← r.length]; exact hl)
    simpa using this) r h) fun r s' hq => ?_)
  cases r with
  | error e => exact hx pins σ H s e s' I hq
  | ok fl =>
    cases fl with
    | ret w => exact I.after hq
    | next => exact False.elim hq
    | brk => exact False.elim hq
    | cont => exact False.elim hq
/-- a == b, both of the class C, by its own __eq__, whatever it answers -/
theorem eq_own (F : FnOk X.prog X.w X.K X.mg X.base CX k f fd ps sp) (hr : Room k X.A) (hn : PySem.W.notFirst X.K C (.ref C) = true) (hs : PySem.W.findIn X.K (.ref C) "__eq__" = some (some (.ref f))) (hf : PySem.W.isFn X.K (.ref f) = true)
    (hb : Binds X.K fd ps []) (hx : Passes CX X E) : OpR X (compareOp .Eq) (rOwn C sp E) := by
  intro pins s σ H x y u v Q I rx ry hq
  obtain ⟨a, b, dx, dy, fs, gs, rfl, rfl, ha, hb', h⟩ := hq
  cases rx
  cases ry
  obtain ⟨mA, J, _⟩ := ins_get I.hok ha
  obtain ⟨mB, J', _⟩ := ins_get I.hok hb'
  obtain ⟨od, J, _⟩ := J.look
  obtain ⟨od', J', _⟩ := J'.look
  obtain ⟨m, hF⟩ := I.fr
  show wpAny (model X.prog X.w) X.A (richCompare .Eq (.ref a) (.ref b)) (EP X pins σ Q) X.xe s
  refine PySem.W.cmp_K (op := .Eq) (tb := .ref C) hr.units0 hF I.ok.mod.kin J J'.type hn hs hf ?_
  refine wpAny_mono (own_call F hr hb hx I (vs := [V.ref a, V.ref b]) (.cons rfl (.cons rfl .nil)) h) (fun w s' z => ?_) fun _ _ e => e
  obtain ⟨v, H', I', rv, q⟩ := z
  have := no_ni rv
  cases w <;> first | exact absurd rfl this | exact ⟨v, H', I', rv, q⟩
/-- len(a) by the class's own __len__ -/
def rLenOwn (C : Addr) (sp : Sp) (E : XK) : List V → Hp → VK → Prop := fun xs H Q => ∃ a dx fs, xs = [.ref a] ∧ H a = some (.ins C dx fs) ∧ sp [.ref a] H (fun v H' => ∃ n : Int, v = .int n ∧ 0 ≤ n ∧ n < 2 ^ 63 ∧ Q (.int n) H') E
theorem len_own (F : FnOk X.prog X.w X.K X.mg X.base CX k f fd ps sp) (hr : Room (k + 1) X.A) (hs : PySem.W.findIn X.K (.ref C) "__len__" = some (some (.ref f))) (hf : PySem.W.isFn X.K (.ref f) = true)
    (hb : Binds X.K fd ps []) (hx : Passes CX X E) : CallR X (.builtin "len") (rLenOwn C sp E) := by
  intro pins s σ H xs us Q I r hq
  obtain ⟨a, dx, fs, rfl, ha, h⟩ := hq
  obtain rfl := Vals.ref1 r
  obtain ⟨mA, J, _⟩ := ins_get I.hok ha
  obtain ⟨od, J, _⟩ := J.look
  obtain ⟨m, hF⟩ := I.fr
  refine PySem.W.len_K hF I.ok.mod.kin J hs hf ?_
  refine wpAny_mono (own_call1 (A := X.A.in1) rfl F hr.in1 hb hx I (vs := [V.ref a]) (.cons rfl .nil) h) (fun w s' z => ?_) fun _ _ e => e
  obtain ⟨v, H', I', rv, n, rfl, h0, h1, q⟩ := z
  obtain ⟨t, rfl⟩ := rv
  exact ⟨⟨h0, h1⟩, .int n, H', I'.tok _, ⟨_, rfl⟩, q⟩
end
end Ow

set_option Elab.async false
set_option linter.all false
set_option maxRecDepth 100000
set_option maxHeartbeats 3200000
/-! a != b, both of a class of the text that has only an own __eq__ -/
namespace Ow
open PySem PySem.Spec PyProof.Rows L2
theorem ifBound_b {A : Around} {E : Value → Shared → Prop} {s : Shared} {K : PySem.W.Frag} {x C : Addr} {ox : Obj} {od : Option Obj} {name : Str} {id : String} {M : Model} {args : List Value} {Q : Option Value → Shared → Prop} (X : K.In s.heap) (I : PySem.W.InstAt s.heap x ox C od)
    (hs : PySem.W.findIn K (.ref C) name = some (some (.builtin id))) (hb : ∀ self, bindSpecial (.builtin id) self = pure (.builtin id, [self]))
    (h : wpAny M A (call (.builtin id) (.ref x :: args)) (fun v => Q (some v)) E s) : wpAny M A (callSpecialIfBound? (.ref x) name args) Q E s := by
  simp only [callSpecialIfBound?, bindSpecialIfBound?]
  refine wpAny_holding (wpAny_bind (wpAny_bind (wpAny_bind (I.type.here ((PySem.W.looks_findIn X hs).here ?_)))))
  simp only [hb]
  refine wpAny_bind (wpAny_askSetting (wpAny_ite ?_))
  have fin : wpAny M A (call (.builtin id) ([.ref x] ++ args) >>= fun v => pure (some v)) Q E s := wpAny_bind (wpAny_mono h (fun v s' h' => wpAny_pure h') fun _ _ h' => h')
  split
  · exact wpAny_bind (wpAny_pure (wpAny_pure fin))
  · exact wpAny_tryCatch (wpAny_bind (wpAny_pure (wpAny_pure fin)))
section
variable {X : Cx} {CX : CXT} {C f : Addr} {fd : FuncData} {ps : List Str} {sp : Sp} {E : XK} {k : Nat}
def rOwnNe (C : Addr) (sp : Sp) (E : XK) : R2 := fun x y H Q => ∃ a b dx dy fs gs, x = .ref a ∧ y = .ref b ∧ H a = some (.ins C dx fs) ∧ H b = some (.ins C dy gs) ∧ sp [.ref a, .ref b] H (fun v H' => ∃ t : Bool, v = .bl t ∧ Q (.bl (!t)) H') E
theorem ne_own (F : FnOk X.prog X.w X.K X.mg X.base CX k f fd ps sp) (hr : Room (k + 1) X.A) (hob : PySem.W.subIn X.K (.ref C) (.type "object") = some true) (hn : PySem.W.findIn X.K (.ref C) "__ne__" = some (some (.builtin "object.__ne__")))
    (hs : PySem.W.findIn X.K (.ref C) "__eq__" = some (some (.ref f))) (hf : PySem.W.isFn X.K (.ref f) = true) (hb : Binds X.K fd ps []) (hx : Passes CX X E) : OpR X (compareOp .NotEq) (rOwnNe C sp E) := by
  intro pins s σ H x y u v Q I rx ry hq
  obtain ⟨a, b, dx, dy, fs, gs, rfl, rfl, ha, hb', h⟩ := hq
  cases rx
  cases ry
  obtain ⟨mA, J, _⟩ := ins_get I.hok ha
  obtain ⟨mB, J', _⟩ := ins_get I.hok hb'
  obtain ⟨od, J, _⟩ := J.look
  obtain ⟨od', J', _⟩ := J'.look
  obtain ⟨m, hF⟩ := I.fr
  have X0 := I.ok.mod.kin.keeps hF.keep
  have inner := own_call1 (A := X.A.in1) rfl F hr.in1 hb hx I (vs := [V.ref a, V.ref b]) (us := [.ref a, .ref b]) (.cons rfl (.cons rfl .nil)) h
  have one : wpAny (model X.prog X.w) X.A (tryCompare (.ref a) "__ne__" (.ref b)) (fun r s' => ∃ v, r = some v ∧ EP X pins σ Q v s') X.xe s := by
    unfold tryCompare
    refine wpAny_bind (ifBound_b X0 J hn PySem.F.cmp_object.ne.bind (wpAny_call (codeAny_call_builtin PySem.F.cmp_object.ne.plain PySem.F.cmpEntry_ne
      (PySem.W.check_slot PySem.F.cmpKind_ne PySem.F.cmpSplit_ne (J.type.andThen (PySem.W.looks_subIn X0 hob)) (PySem.F.cmpArgs_ne _ _) ?_))))
    unfold Builtin.«object.__ne__»
    repeat (first
      | with_reducible refine wpAny_cRoomFor hr.in1.units0 ?_
      | (refine wpAny_bind (m := callSpecialIfBound? (.ref a) (Str.ofString "__eq__") [.ref b]) (PySem.W.ifBound_K X0 J hs hf (wpAny_mono inner (fun r s' hr' => ?_) fun _ _ e => e)))
      | wp_step)
    obtain ⟨v, H', I', rv, t, rfl, q⟩ := hr'
    obtain rfl : r = Value.bool t := rv
    repeat (first | (refine wpAny_bind (m := truthy (.bool _)) (wpAny_truthy_bool ?_)) | wp_step)
    first
      | exact ⟨_, rfl, .bl (!t), H', I', rfl, q⟩
      | exact wpAny_pure ⟨_, rfl, .bl (!t), H', I', rfl, q⟩
  show wpAny (model X.prog X.w) X.A (richCompare .NotEq (.ref a) (.ref b)) (EP X pins σ Q) X.xe s
  unfold richCompare
  simp only [oneThing_ref]
  refine wpAny_holding (wpAny_bind (wpAny_cRoomFor hr.units0 ?_))
  refine wpAny_bind (J.type.here (wpAny_bind (J'.type.here ?_)))
  rw [show (Value.ref C != Value.ref C) = false from by simp]
  simp only [Bool.false_eq_true, if_false]
  refine wpAny_bind (wpAny_pure ?_)
  simp only [Bool.false_eq_true, if_false]
  refine wpAny_bind (wpAny_mono one (fun r s' z => ?_) fun _ _ e => e)
  obtain ⟨v, rfl, hq⟩ := z
  exact wpAny_pure hq
end
end Ow

set_option Elab.async false
set_option linter.all false
set_option maxRecDepth 100000
set_option maxHeartbeats 3200000
/-! a == v, a != v with v of another kind; a[i] by an own __getitem__; str(a) by an own __str__ -/
namespace Ow
open PySem PySem.Spec PyProof.Rows L2
section
variable {X : Cx} {CX : CXT} {C f : Addr} {fd : FuncData} {ps : List Str} {sp : Sp} {E : XK} {k : Nat}
def rOwnX (K : PySem.W.Frag) (C : Addr) (sp : Sp) (E : XK) : R2 := fun x y H Q => ∃ a dx fs t, x = .ref a ∧ H a = some (.ins C dx fs) ∧ TyX K H y t ∧ PySem.W.notFirst K C t = true ∧ sp [.ref a, y] H Q E
theorem eq_ownX (F : FnOk X.prog X.w X.K X.mg X.base CX k f fd ps sp) (hr : Room k X.A) (hs : PySem.W.findIn X.K (.ref C) "__eq__" = some (some (.ref f))) (hf : PySem.W.isFn X.K (.ref f) = true)
    (hb : Binds X.K fd ps []) (hx : Passes CX X E) : OpR X (compareOp .Eq) (rOwnX X.K C sp E) := by
  intro pins s σ H x y u v Q I rx ry hq
  obtain ⟨a, dx, fs, t, rfl, ha, ty, hn, h⟩ := hq
  cases rx
  obtain ⟨mA, J, _⟩ := ins_get I.hok ha
  obtain ⟨od, J, _⟩ := J.look
  obtain ⟨m, hF⟩ := I.fr
  obtain ⟨P, Z, hP, _⟩ := kit_of I ry ty
  show wpAny (model X.prog X.w) X.A (richCompare .Eq (.ref a) v) (EP X pins σ Q) X.xe s
  refine PySem.W.cmp_K (op := .Eq) (tb := t) hr.units0 hF I.ok.mod.kin J (Z.ty _ _ I.kIn hP) hn hs hf ?_
  refine wpAny_mono (own_call F hr hb hx I (vs := [V.ref a, y]) (.cons rfl (.cons ry .nil)) h) (fun w s' z => ?_) fun _ _ e => e
  obtain ⟨v, H', I', rv, q⟩ := z
  have := no_ni rv
  cases w <;> first | exact absurd rfl this | exact ⟨v, H', I', rv, q⟩
def rOwnNeX (K : PySem.W.Frag) (C : Addr) (sp : Sp) (E : XK) : R2 := fun x y H Q => ∃ a dx fs t, x = .ref a ∧ H a = some (.ins C dx fs) ∧ TyX K H y t ∧ PySem.W.notFirst K C t = true ∧ sp [.ref a, y] H (fun v H' => ∃ t : Bool, v = .bl t ∧ Q (.bl (!t)) H') E
theorem ne_ownX (F : FnOk X.prog X.w X.K X.mg X.base CX k f fd ps sp) (hr : Room (k + 1) X.A) (hob : PySem.W.subIn X.K (.ref C) (.type "object") = some true) (hn0 : PySem.W.findIn X.K (.ref C) "__ne__" = some (some (.builtin "object.__ne__")))
    (hs : PySem.W.findIn X.K (.ref C) "__eq__" = some (some (.ref f))) (hf : PySem.W.isFn X.K (.ref f) = true) (hb : Binds X.K fd ps []) (hx : Passes CX X E) : OpR X (compareOp .NotEq) (rOwnNeX X.K C sp E) := by
  intro pins s σ H x y u v Q I rx ry hq
  obtain ⟨a, dx, fs, ty, rfl, ha, hty, hn, h⟩ := hq
  cases rx
  obtain ⟨mA, J, _⟩ := ins_get I.hok ha
  obtain ⟨od, J, _⟩ := J.look
  obtain ⟨m, hF⟩ := I.fr
  obtain ⟨P, Z, hP, _⟩ := kit_of I ry hty
  have X0 := I.ok.mod.kin.keeps hF.keep
  have hv := Z.ty (model X.prog X.w) _ I.kIn hP
  have inner := own_call1 (A := X.A.in1) rfl F hr.in1 hb hx I (vs := [V.ref a, y]) (us := [.ref a, v]) (.cons rfl (.cons ry .nil)) h
  have one : wpAny (model X.prog X.w) X.A (tryCompare (.ref a) "__ne__" v) (fun r s' => ∃ v, r = some v ∧ EP X pins σ Q v s') X.xe s := by
    unfold tryCompare
    refine wpAny_bind (ifBound_b X0 J hn0 PySem.F.cmp_object.ne.bind (wpAny_call (codeAny_call_builtin PySem.F.cmp_object.ne.plain PySem.F.cmpEntry_ne
      (PySem.W.check_slot PySem.F.cmpKind_ne PySem.F.cmpSplit_ne (J.type.andThen (PySem.W.looks_subIn X0 hob)) (PySem.F.cmpArgs_ne _ _) ?_))))
    unfold Builtin.«object.__ne__»
    repeat (first
      | with_reducible refine wpAny_cRoomFor hr.in1.units0 ?_
      | (refine wpAny_bind (m := callSpecialIfBound? (.ref a) (Str.ofString "__eq__") [v]) (PySem.W.ifBound_K X0 J hs hf (wpAny_mono inner (fun r s' hr' => ?_) fun _ _ e => e)))
      | wp_step)
    obtain ⟨v, H', I', rv, t, rfl, q⟩ := hr'
    obtain rfl : r = Value.bool t := rv
    repeat (first | (refine wpAny_bind (m := truthy (.bool _)) (wpAny_truthy_bool ?_)) | wp_step)
    first
      | exact ⟨_, rfl, .bl (!t), H', I', rfl, q⟩
      | exact wpAny_pure ⟨_, rfl, .bl (!t), H', I', rfl, q⟩
  show wpAny (model X.prog X.w) X.A (richCompare .NotEq (.ref a) v) (EP X pins σ Q) X.xe s
  unfold richCompare
  simp only [oneThing_ref]
  refine wpAny_holding (wpAny_bind (wpAny_cRoomFor hr.units0 ?_))
  refine wpAny_bind (J.type.here (wpAny_bind (hv.here ?_)))
  split
  · rename_i q
    have e : PySem.W.subIn X.K ty (.ref C) = some false := by
      rcases Bool.or_eq_true_iff.mp hn with e | e
      · rw [beq_iff_eq.mp e] at q; simp at q
      · exact beq_iff_eq.mp e
    refine wpAny_bind ((PySem.W.looks_subIn X0 e).here ?_)
    simp only [Bool.false_eq_true, if_false]
    refine wpAny_bind (wpAny_mono one (fun r s' z => ?_) fun _ _ e => e)
    obtain ⟨v, rfl, hq⟩ := z
    exact wpAny_pure hq
  · refine wpAny_bind (wpAny_pure ?_)
    simp only [Bool.false_eq_true, if_false]
    refine wpAny_bind (wpAny_mono one (fun r s' z => ?_) fun _ _ e => e)
    obtain ⟨v, rfl, hq⟩ := z
    exact wpAny_pure hq
/-- a[i] -/
def rOwnIx (C : Addr) (sp : Sp) (E : XK) : R2 := fun x y H Q => ∃ a dx fs, x = .ref a ∧ H a = some (.ins C dx fs) ∧ sp [.ref a, y] H Q E
theorem pe_ixOwn {a b : Expr} {ta tb : TE} {pos : Pos} (F : FnOk X.prog X.w X.K X.mg X.base CX k f fd ps sp) (hr : Room (k + 1) X.A) (hs : PySem.W.findIn X.K (.ref C) "__getitem__" = some (some (.ref f))) (hf : PySem.W.fnIn X.K f = true) (hfn : PySem.W.isFn X.K (.ref f) = true)
    (hb : Binds X.K fd ps []) (hx : Passes CX X E) (ha : PE X a ta) (hbb : PE X b tb) (hsl : ∀ o i, subscripted b true o i = runValue (.builtin "lifetime.subscript" ⟨[o, i], []⟩)) : PE X (.Subscript a b pos) (tOp (rOwnIx C sp E) ta tb) := by
  refine ⟨fun pins s σ H Q I h => ?_⟩
  refine Subscript_ (binT ha hbb I (R := fun x y H2 => rOwnIx C sp E x y H2 Q) h fun v u s2 x y H2 I2 rx ry q => ?_)
  obtain ⟨a, dx, fs, rfl, ha, h⟩ := q
  cases rx
  obtain ⟨mA, J, _⟩ := ins_get I2.hok ha
  obtain ⟨od, J, _⟩ := J.look
  obtain ⟨m, hF⟩ := I2.fr
  exact PySem.W.sub_K hF I2.ok.mod.kin J hs hf hfn (own_call1 (A := X.A.in1) rfl F hr.in1 hb hx I2 (vs := [V.ref a, y]) (.cons rfl (.cons ry .nil)) h) (hsl _ _)
/-- str(a) -/
def rStrOwn (C : Addr) (sp : Sp) (E : XK) : List V → Hp → VK → Prop := fun xs H Q => ∃ a dx fs, xs = [.ref a] ∧ H a = some (.ins C dx fs) ∧ sp [.ref a] H (fun v H' => ∃ z, v = .str z ∧ Q (.str z) H') E
theorem str_own (F : FnOk X.prog X.w X.K X.mg X.base CX k f fd ps sp) (hr : Room (k + 2) X.A) (hs : PySem.W.findIn X.K (.ref C) "__str__" = some (some (.ref f))) (hf : PySem.W.isFn X.K (.ref f) = true)
    (hb : Binds X.K fd ps []) (hx : Passes CX X E) : CallR X (.type "str") (rStrOwn C sp E) := by
  intro pins s σ H xs us Q I r hq
  obtain ⟨a, dx, fs, rfl, ha, h⟩ := hq
  obtain rfl := Vals.ref1 r
  obtain ⟨mA, J, _⟩ := ins_get I.hok ha
  obtain ⟨od, J, _⟩ := J.look
  obtain ⟨m, hF⟩ := I.fr
  refine PySem.W.kso_call hr.in1.in1.units0 I.kIn J hs hf ?_
  refine wpAny_mono (own_call1 (A := X.A.in1.in1) rfl F hr.in1.in1 hb hx I (vs := [V.ref a]) (.cons rfl .nil) h) (fun w s' z => ?_) fun _ _ e => e
  obtain ⟨v, H', I', rv, n, rfl, q⟩ := z
  obtain ⟨t, rfl⟩ := rv
  exact ⟨.str n, H', I', ⟨t, rfl⟩, q⟩
end
end Ow

set_option Elab.async false
set_option linter.all false
set_option maxRecDepth 100000
/-! programs of steps: their lines and sizes -/
namespace Sm
open PySem Tx Tm
inductive Stp
  | txt (z : Str)
  | join (i j : Nat)
  | pow (i k : Nat)
deriving DecidableEq
abbrev Line := List Nat
def rep (k : Nat) (l : Line) : Line := (List.replicate k l).flatten
theorem rep_zero (l : Line) : rep 0 l = [] := rfl
theorem rep_succ (k : Nat) (l : Line) : rep (k + 1) l = l ++ rep k l := by
  unfold rep
  rw [List.replicate_succ]
  rfl
theorem rep_len (k : Nat) (l : Line) : (rep k l).length = k * l.length := by
  induction k with
  | zero => rw [rep_zero, Nat.zero_mul]; rfl
  | succ k ih => rw [rep_succ, List.length_append, ih, Nat.succ_mul, Nat.add_comm]
theorem rep_get (l : Line) : ∀ (k i : Nat), i < k * l.length → (rep k l)[i]? = l[i % l.length]?
  | 0, i, h => absurd h (by rw [Nat.zero_mul]; exact Nat.not_lt_zero _)
  | k + 1, i, h => by
    rw [rep_succ]
    by_cases hi : i < l.length
    · rw [List.getElem?_append_left hi, Nat.mod_eq_of_lt hi]
    · have h2 : l.length ≤ i := by omega
      rw [List.getElem?_append_right h2, rep_get l k (i - l.length) (by rw [Nat.succ_mul] at h; omega), Nat.mod_eq_sub_mod h2]
theorem rep_nil (k : Nat) : rep k [] = [] := by
  induction k with
  | zero => rfl
  | succ k ih => rw [rep_succ, ih]; rfl
def lineOf (acc : List Line) : Stp → Line
  | .txt z => cds z
  | .join i j => acc.getD i [] ++ acc.getD j []
  | .pow i k => rep k (acc.getD i [])
def linesFrom (acc : List Line) (ss : List Stp) : List Line := ss.foldl (fun a s => a ++ [lineOf a s]) acc
def lines (ss : List Stp) : List Line := linesFrom [] ss
/-- the line of a step -/
def L (ss : List Stp) (i : Nat) : Line := (lines ss).getD i []
theorem lines_snoc (ss : List Stp) (s : Stp) : lines (ss ++ [s]) = lines ss ++ [lineOf (lines ss) s] := by
  unfold lines linesFrom
  rw [List.foldl_append]
  rfl
theorem lines_len (ss : List Stp) : (lines ss).length = ss.length := by
  have : ∀ (ss : List Stp) (a : List Line), (linesFrom a ss).length = a.length + ss.length := by
    intro ss
    induction ss with
    | nil => intro a; rfl
    | cons s ss ih =>
      intro a
      show (linesFrom (a ++ [lineOf a s]) ss).length = _
      rw [ih, List.length_append]
      show a.length + 1 + ss.length = a.length + (ss.length + 1)
      omega
  have h := this ss []
  rw [show lines ss = linesFrom [] ss from rfl, h]
  show 0 + _ = _
  omega
theorem from_pre : ∀ (ss : List Stp) (a : List Line), ∃ m, linesFrom a ss = a ++ m
  | [], a => ⟨[], (List.append_nil a).symm⟩
  | s :: ss, a => by
    obtain ⟨m, e⟩ := from_pre ss (a ++ [lineOf a s])
    exact ⟨lineOf a s :: m, by show linesFrom (a ++ [lineOf a s]) ss = _; rw [e, List.append_assoc]; rfl⟩
theorem lines_pre (ss tt : List Stp) : ∃ m, lines (ss ++ tt) = lines ss ++ m := by
  unfold lines
  rw [show linesFrom [] (ss ++ tt) = linesFrom (linesFrom [] ss) tt from List.foldl_append ..]
  exact from_pre tt _
theorem L_app {ss tt : List Stp} {i : Nat} (h : i < ss.length) : L (ss ++ tt) i = L ss i := by
  obtain ⟨m, e⟩ := lines_pre ss tt
  unfold L
  rw [e, List.getD_eq_getElem?_getD, List.getD_eq_getElem?_getD, List.getElem?_append_left (by rw [lines_len]; exact h)]
def okS (n : Nat) : Stp → Prop
  | .txt _ => True
  | .join i j => i < n ∧ j < n
  | .pow i _ => i < n
def Good (ss : List Stp) : Prop := ∀ i s, ss[i]? = some s → okS i s
theorem Good.nil : Good [] := fun i s h => by cases h
theorem Good.snoc {ss : List Stp} {s : Stp} (h : Good ss) (k : okS ss.length s) : Good (ss ++ [s]) := fun i t e => by
  by_cases hi : i < ss.length
  · rw [List.getElem?_append_left hi] at e
    exact h i t e
  · have hl := (List.getElem?_eq_some_iff.mp e).1
    rw [List.length_append, List.length_singleton] at hl
    have hi2 : i = ss.length := by omega
    subst hi2
    rw [List.getElem?_append_right (Nat.le_refl _), Nat.sub_self] at e
    cases e
    exact k
/-- the line of a step by the lines below -/
def lineIn (ss : List Stp) : Stp → Line
  | .txt z => cds z
  | .join i j => L ss i ++ L ss j
  | .pow i k => rep k (L ss i)
theorem L_last (ss : List Stp) (s : Stp) : L (ss ++ [s]) ss.length = lineIn ss s := by
  unfold L
  rw [lines_snoc, List.getD_eq_getElem?_getD, List.getElem?_append_right (by rw [lines_len]; exact Nat.le_refl _), lines_len, Nat.sub_self]
  cases s <;> rfl
theorem L_at {ss : List Stp} (hg : Good ss) {i : Nat} {s : Stp} (h : ss[i]? = some s) : L ss i = lineIn ss s := by
  have hi := (List.getElem?_eq_some_iff.mp h).1
  have e : ss = ss.take i ++ (s :: ss.drop (i + 1)) := by
    have := (List.getElem?_eq_some_iff.mp h).2
    rw [← this, ← List.drop_eq_getElem_cons hi, List.take_append_drop]
  have hl : (ss.take i).length = i := by rw [List.length_take]; omega
  have e1 : L ss i = L (ss.take i ++ [s]) i := by
    conv => lhs; rw [e, ← List.singleton_append, ← List.append_assoc]
    exact L_app (by rw [List.length_append, hl]; exact Nat.lt_succ_self i)
  have e2 := L_last (ss.take i) s
  rw [hl] at e2
  rw [e1, e2]
  have low : ∀ j, j < i → L (ss.take i) j = L ss j := fun j hj => by
    conv => rhs; rw [e]
    exact (L_app (by rw [hl]; exact hj)).symm
  have ok := hg i s h
  cases s with
  | txt z => rfl
  | join a b =>
    show L _ a ++ L _ b = _
    rw [low a ok.1, low b ok.2]
    rfl
  | pow a k =>
    show rep k (L _ a) = _
    rw [low a ok]
    rfl
/-! ### steps moved up -/
def shift (m : Nat) : Stp → Stp
  | .txt z => .txt z
  | .join i j => .join (i + m) (j + m)
  | .pow i k => .pow (i + m) k
theorem Good.shift {ss tt : List Stp} (h : Good ss) (k : Good tt) : Good (ss ++ tt.map (Sm.shift ss.length)) := fun i s e => by
  by_cases hi : i < ss.length
  · rw [List.getElem?_append_left hi] at e
    exact h i s e
  · rw [List.getElem?_append_right (by omega), List.getElem?_map] at e
    cases ht : tt[i - ss.length]? with
    | none => rw [ht] at e; cases e
    | some t =>
      rw [ht] at e
      cases e
      have := k _ _ ht
      cases t with
      | txt z => trivial
      | join a b => exact ⟨by have := this.1; omega, by have := this.2; omega⟩
      | pow a c => exact (show a + ss.length < i by have : a < i - ss.length := this; omega)
theorem lines_shift (ss : List Stp) : ∀ (n : Nat) {tt : List Stp}, tt.length = n → Good tt → lines (ss ++ tt.map (shift ss.length)) = lines ss ++ lines tt
  | 0, tt, hl, _ => by
    rw [List.length_eq_zero_iff.mp hl, List.map_nil, List.append_nil]
    exact (List.append_nil _).symm
  | n + 1, tt', hl, hg' => by
    obtain ⟨tt, t, rfl⟩ : ∃ m x, tt' = m ++ [x] := ⟨tt'.dropLast, tt'.getLast (fun e => by rw [e] at hl; cases hl), (List.dropLast_concat_getLast _).symm⟩
    have hg := hg'
    have g1 : Good tt := fun i s e => hg i s (by rw [List.getElem?_append_left (List.getElem?_eq_some_iff.mp e).1]; exact e)
    have ih := lines_shift ss n (tt := tt) (by rw [List.length_append] at hl; exact Nat.succ.inj hl) g1
    have ok : okS tt.length t := hg tt.length t (by rw [List.getElem?_append_right (Nat.le_refl _), Nat.sub_self]; rfl)
    rw [List.map_append, ← List.append_assoc, List.map_singleton, lines_snoc, ih, lines_snoc, List.append_assoc]
    congr 2
    have get : ∀ a, a < tt.length → (lines ss ++ lines tt).getD (a + ss.length) [] = (lines tt).getD a [] := fun a ha => by
      rw [List.getD_eq_getElem?_getD, List.getD_eq_getElem?_getD, List.getElem?_append_right (by rw [lines_len]; omega), lines_len, Nat.add_sub_cancel]
    cases t with
    | txt z => rfl
    | join a b =>
      show [(lines ss ++ lines tt).getD (a + ss.length) [] ++ (lines ss ++ lines tt).getD (b + ss.length) []] = _
      rw [get a ok.1, get b ok.2]
      rfl
    | pow a k =>
      show [rep k ((lines ss ++ lines tt).getD (a + ss.length) [])] = _
      rw [get a ok]
      rfl
/-! ### what a step is made of -/
def below : Stp → List Nat
  | .txt _ => []
  | .join i j => [i, j]
  | .pow i k => if 0 < k then [i] else []
theorem below_lt {ss : List Stp} (hg : Good ss) {i : Nat} {s : Stp} (h : ss[i]? = some s) : ∀ b ∈ below s, b < i := fun b hb => by
  have ok := hg i s h
  cases s with
  | txt z => cases hb
  | join a c =>
    rcases List.mem_cons.mp hb with rfl | hb
    · exact ok.1
    · rw [List.mem_singleton.mp hb]
      exact ok.2
  | pow a k =>
    have hb : b ∈ (if 0 < k then [a] else []) := hb
    split at hb
    · rw [List.mem_singleton.mp hb]
      exact ok
    · cases hb
theorem below_le {ss : List Stp} (hg : Good ss) {i : Nat} {s : Stp} (h : ss[i]? = some s) : ∀ b ∈ below s, (L ss b).length ≤ (L ss i).length := fun b hb => by
  rw [L_at hg h]
  cases s with
  | txt z => cases hb
  | join a c =>
    show _ ≤ (L ss a ++ L ss c).length
    rw [List.length_append]
    rcases List.mem_cons.mp hb with rfl | hb
    · omega
    · rw [List.mem_singleton.mp hb]
      omega
  | pow a k =>
    have hb : b ∈ (if 0 < k then [a] else []) := hb
    split at hb
    · rename_i hk
      rw [List.mem_singleton.mp hb]
      show _ ≤ (rep k (L ss a)).length
      rw [rep_len]
      exact Nat.le_mul_of_pos_left _ hk
    · cases hb
/-! ### sizes -/
def Z (ss : List Stp) (i : Nat) : Nat := (L ss i).length
def sizes (ss : List Stp) : List Nat := (List.range ss.length).map (Z ss)
def sizeIn (ss : List Stp) : Stp → Nat
  | .txt z => z.length
  | .join i j => Z ss i + Z ss j
  | .pow i k => Z ss i * k
theorem Z_at {ss : List Stp} (hg : Good ss) {i : Nat} {s : Stp} (h : ss[i]? = some s) : Z ss i = sizeIn ss s := by
  unfold Z
  rw [L_at hg h]
  cases s with
  | txt z => exact cds_len z
  | join a b => exact List.length_append ..
  | pow a k => show (rep k (L ss a)).length = Z ss a * k; rw [rep_len, Nat.mul_comm]; rfl
theorem sizes_get {ss : List Stp} {i : Nat} (h : i < ss.length) : (sizes ss)[i]? = some (Z ss i) := by
  unfold sizes
  rw [List.getElem?_map, List.getElem?_range h]
  rfl
/-! ### the letter at a place -/
theorem join_get {ss : List Stp} (hg : Good ss) {n a b : Nat} (h : ss[n]? = some (.join a b)) (x : Nat) : (L ss n)[x]? = if x < Z ss a then (L ss a)[x]? else (L ss b)[x - Z ss a]? := by
  rw [L_at hg h]
  show (L ss a ++ L ss b)[x]? = _
  split
  · rename_i hx
    exact List.getElem?_append_left hx
  · rename_i hx
    exact List.getElem?_append_right (Nat.le_of_not_lt hx)
theorem pow_get {ss : List Stp} (hg : Good ss) {n a k : Nat} (h : ss[n]? = some (.pow a k)) {x : Nat} (hx : x < Z ss n) : (L ss n)[x]? = (L ss a)[x % Z ss a]? ∧ 0 < Z ss a := by
  have e := L_at hg h
  have hz : Z ss n = Z ss a * k := Z_at hg h
  refine ⟨?_, ?_⟩
  · rw [e]
    exact rep_get _ k x (by rw [Nat.mul_comm]; rw [hz] at hx; exact hx)
  · rw [hz] at hx
    exact Nat.pos_of_ne_zero fun z => by rw [z, Nat.zero_mul] at hx; exact Nat.not_lt_zero _ hx
end Sm

set_option Elab.async false
set_option linter.all false
set_option maxRecDepth 100000
set_option maxHeartbeats 4000000
/-! rules for tuples of numbers: enumerate(t), sorted(t), t.index(n) -/
namespace Ur
open PySem PySem.Spec PyProof.Rows L2
open Sem (wp)
open AutoSeq1 (wpAny_loadPart')
theorem meets_enumerate_newT (l : Addr) (items : Array Value) (n : Nat) (dct : Option Addr) (sl : Array (Option Value)) :
    Meets (Builtin.«enumerate.__new__» ⟨[.type "enumerate", .ref l], []⟩) (fun _ R s => s.heap.get? l = some { cls := .type "tuple", dict := dct, data := .seq items n, slots := sl } ∧
      R (.ok (.ret (.ref (s.heap.push { cls := .type "tuple_iterator", data := .fields #[.ref l, .int 0 0] }).objs.size)))
        { s with heap := (s.heap.push { cls := .type "tuple_iterator", data := .fields #[.ref l, .int 0 0] }).push { cls := .type "enumerate", data := .fields #[.none, .bool false, .ref s.heap.objs.size, rawInt 0, .none, .none] } }) :=
  .of_wp fun prog w A R s h => by
    obtain ⟨hp, g, d, tk, os⟩ := s; obtain ⟨hl, h⟩ := h
    have hsub := sub_enumerate
    have hL : Heap.IsTuple (Shared.heap ⟨hp, g, d, tk, os⟩) l items := ⟨_, hl, rfl, n, rfl⟩
    wp_walk using wpAny_loadPart' hl
    refine wpAny_stack_any fun st => wpAny_pure ?_
    split
    · rename_i c _ _ _ _ _
      cases (c == Value.type "enumerate")
      · wp_walk using wpAny_loadPart' hl, wpAny_pyIter_tuple hL
        exact ⟨_, rfl, h⟩
      · wp_walk using wpAny_loadPart' hl, wpAny_pyIter_tuple hL
        exact ⟨_, rfl, h⟩
    · wp_walk using wpAny_loadPart' hl, wpAny_pyIter_tuple hL
      exact ⟨_, rfl, h⟩
section
variable {prog : Program} {w : World} {A : Around} {E : Value → Shared → Prop} {s : Shared}
theorem call_enumerate_tuple {l : Addr} {items : Array Value} {Q : Value → Shared → Prop} (hL : s.heap.IsTuple l items)
    (h : ∀ h', IsEnum h' (s.heap.objs.size + 1) s.heap.objs.size 0 .none → h'.IsTupleIter s.heap.objs.size l 0 → h'.objs.size = s.heap.objs.size + 2 →
      (∀ b o, s.heap.get? b = some o → h'.get? b = some o) → Q (.ref (s.heap.objs.size + 1)) { s with heap := h' }) :
    wpAny (model prog w) A (call (.type "enumerate") [.ref l]) Q E s := by
  obtain ⟨⟨c, dct, dt, sl⟩, hl, hc, n, hd⟩ := hL
  replace hc : c = .type "tuple" := hc
  replace hd : dt = .seq items n := hd
  subst hc hd
  refine callType_new F.called_enumerate (by decide) (F.typeCall_enumerate_1 _) (F.newCall_enumerate_1 _) (fun obj => F.args_object_init_2 obj _) F.entry_enumerate_new
    (meets_enumerate_newT l items n dct sl) ⟨hl, ?_⟩
  have hz : (s.heap.push { cls := .type "tuple_iterator", data := .fields #[.ref l, .int 0 0] }).objs.size = s.heap.objs.size + 1 := Heap.size_push ..
  show _ ∧ _
  rw [hz]
  have he : IsEnum ((s.heap.push { cls := .type "tuple_iterator", data := .fields #[.ref l, .int 0 0] }).push
      { cls := .type "enumerate", data := .fields #[.none, .bool false, .ref s.heap.objs.size, rawInt 0, .none, .none] }) (s.heap.objs.size + 1) s.heap.objs.size 0 .none := by
    have := Heap.get?_push_size (s.heap.push { cls := .type "tuple_iterator", data := .fields #[.ref l, .int 0 0] })
      (o := { cls := .type "enumerate", data := .fields #[.none, .bool false, .ref s.heap.objs.size, rawInt 0, .none, .none] }) rfl
    rw [hz] at this; exact this
  refine ⟨⟨_, he, rfl⟩, h _ he ⟨_, Heap.get?_push_of_some _ (Heap.get?_push_size _ rfl), rfl, rfl⟩ (by rw [Heap.size_push, hz]) fun b o x => Heap.get?_push_of_some _ (Heap.get?_push_of_some _ x)⟩
end
/-- the tuple at a, each item in a new pair with its place -/
def IteT (K : PySem.W.Frag) (a : Addr) : It :=
  ⟨fun i H => ∃ (xs : List V) (x : V), SqT K H a xs ∧ xs[i]? = some x, fun i H v H' => ∃ T x, v = .ref T ∧ H T = none ∧ H' = upd H T (.tup [.int (i : Nat), x]) ∧ ∀ xs, SqT K H a xs → xs[i]? = some x, fun i H => ∃ xs : List V, SqT K H a xs ∧ xs.length = i⟩
theorem turn_enumT {P : Program} {w : World} {K : PySem.W.Frag} {elts : List Expr} {kk : Nat} {tpos : Pos} (a e it : Addr) :
    Turn P w K (.Tuple elts kk tpos) (IteT K a) [e, it] e (fun i h => (∃ old, IsEnum h e it ((i : Nat) : Int) old) ∧ h.IsTupleIter it a i ∧ e ≠ it) where
  mem := by simp
  obj := fun i h st b hb => by
    obtain ⟨⟨old, he⟩, ⟨o, ho, hc, hd⟩, _⟩ := st
    have e' : b = e ∨ b = it := by simpa using hb
    rcases e' with z | z
    · rw [z]; exact ⟨_, he, fun v q => nomatch q⟩
    · rw [z]; exact ⟨o, ho, fun v q => by rw [hd] at q; cases q⟩
  keep := fun i h h' st k => let ⟨⟨old, he⟩, hi, hne⟩ := st; ⟨⟨old, k e (by simp) _ he⟩, hi.at fun o q => k it (by simp) o q, hne⟩
  item := by
    intro X hP hw hK hc i pins s σ H E I hf st hg
    subst hP hw hK
    obtain ⟨⟨old, he⟩, hit, hne⟩ := st
    obtain ⟨xs, x, hq, hx⟩ := hg
    obtain ⟨its, rv, p, hz⟩ := I.tuple hq
    obtain ⟨u, hu, ru⟩ := rv.get hx
    have hel : e < s.heap.objs.size := Heap.lt_size he
    have hil : it < s.heap.objs.size := by obtain ⟨_, q, _⟩ := hit; exact Heap.lt_size q
    have nai : a ≠ it := by
      rintro rfl
      obtain ⟨o, ho, hco, _⟩ := p
      obtain ⟨o2, ho2, hco2, _⟩ := hit
      rw [ho] at ho2
      cases ho2
      rw [hco] at hco2
      exact absurd hco2 (by decide)
    have nea : e ≠ a := by
      rintro rfl
      obtain ⟨o, ho, hco, _⟩ := p
      have he' : s.heap.get? e = _ := he
      rw [ho] at he'
      cases he'
      injection hco with z
      exact absurd z (by decide)
    have hlt : i < its.toArray.size := by
      have := (List.getElem?_eq_some_iff.mp hu).1
      rw [List.size_toArray]
      exact this
    refine wpAny_pyNext_enum_itemD (Draws.tuple (A := X.A.in1) (I.ok.hd hc) it a nai its.toArray) he ⟨hit, p⟩ hlt hne (by simp; exact ⟨hne, nea⟩) fun u' h' tk hu' ho hst hT hsz hk => ?_
    have hu2 : its.toArray[i]? = some u' := hu'
    have eu : u' = u := by
      have : its.toArray[i]? = some u := by simpa using hu
      rw [this] at hu2
      exact (Option.some.inj hu2).symm
    subst eu
    refine ⟨_, rfl, wpAny_letOwnedTupleGo_enum (s := { s with heap := h', toks := tk + 1 }) ho fun h'' he' sb => ?_⟩
    have hT2 : h''.get? s.heap.objs.size = some { cls := .type "tuple", data := .seq #[.int i tk, u'] } := (sb.2 _ (Nat.ne_of_gt hel)).trans hT
    have new : ObjOk X.prog X.w (upd H s.heap.objs.size (.tup [.int (i : Nat), x])) h'' s.heap.objs.size (.tup [.int (i : Nat), x]) :=
      ⟨by show 2 ≤ sizeLine; decide, [.int i tk, u'], .cons ⟨_, rfl⟩ (.cons ru .nil), ⟨_, hT2, rfl, _, rfl⟩⟩
    have I1 : Inv X pins σ (upd H s.heap.objs.size (.tup [.int (i : Nat), x])) { s with heap := h'', toks := tk + 1 } :=
      I.turnedNew (ch := [e, it]) (fun b ob hb q => (sb.2 b (fun z => hb (by simp [z]))).trans (hk b ob (fun z => hb (by simp [z])) (fun z => hb (by simp [z])) q)) hf (Nat.le_refl _) new
    refine ⟨.ref s.heap.objs.size, _, I1, rfl, ⟨_, x, rfl, I.hok.fresh (Nat.le_refl _), rfl, fun ys hy => by rw [I.tuple_inj hy hq]; exact hx⟩, ⟨⟨u', ?_⟩, hst.1.at fun o q => (sb.2 it (Ne.symm hne)).trans q, hne⟩, fun b hb => ?_⟩
    · have e1 : ((i + 1 : Nat) : Int) = (i : Int) + 1 := by omega
      rw [e1]; exact he'
    · have hb' : b < s.heap.objs.size := by
        have e' : b = e ∨ b = it := by simpa using hb
        rcases e' with z | z
        · rw [z]; exact hel
        · rw [z]; exact hil
      rw [upd_ne (Nat.ne_of_lt hb')]
      exact (hf b hb).1
  done := by
    intro X hP hw hK hc i pins s σ H E I hf st hg
    subst hP hw hK
    obtain ⟨⟨old, he⟩, hit, hne⟩ := st
    obtain ⟨xs, hq, hx⟩ := hg
    obtain ⟨its, rv, p, hz⟩ := I.tuple hq
    obtain ⟨f0, f1, f2, f3, f4, f5⟩ := hf it (by simp)
    have hl := rv.length
    have nai : a ≠ it := by
      rintro rfl
      obtain ⟨o, ho, hco, _⟩ := p
      obtain ⟨o2, ho2, hco2, _⟩ := hit
      rw [ho] at ho2
      cases ho2
      rw [hco] at hco2
      exact absurd hco2 (by decide)
    have en : its.toArray.size = i := by rw [List.size_toArray]; omega
    exact wpAny_pyNext_enum_endD (Draws.tuple (A := X.A.in1) (I.ok.hd hc) it a nai its.toArray) he (by rw [en]; exact ⟨hit, p⟩) fun h' eb => ⟨rfl, I.turned (t' := s.toks) (fun b o hb q => eb b o hb q) f0 f1 f3 f4 f5⟩
  self := fun A i s Q E st h => let ⟨⟨_, he⟩, _⟩ := st; wpAny_pyIter_enum he h
def iEnumT (K : PySem.W.Frag) (ta : TA) : TI := fun σ H R => ta σ H fun vs H1 => ∃ a xs, vs = [.ref a] ∧ SqT K H1 a xs ∧ R (IteT K a) H1
theorem pi_enumT {X : Cx} {e : Expr} {ta : TA} {p pos tpos : Pos} {elts : List Expr} {kk : Nat} (hg : Gl X "enumerate") (hm : X.mg "enumerate" = none) (ha : PA X [e] ta) (hs : starEach [e] X.env = [(false, eval e X.env)] := by rfl) :
    PI X (.Tuple elts kk tpos) (.Call (.Name "enumerate" p) [e] [] pos) (iEnumT X.K ta) := by
  refine ⟨fun pins s σ H R I h => ?_⟩
  refine Call_ (ld_blt I hg hm boot_enumerate (PyProof.Rows.callWith_type1 (thn (ha.run pos pins s σ H _ I h) fun us s1 ⟨vs, H1, I1, r1, q1⟩ => ?_) hs rfl))
  obtain ⟨a, xs, ex, hq, q⟩ := q1
  subst ex
  cases r1 with
  | cons r rr =>
    cases rr
    cases r
    obtain ⟨its, rv, p', hz⟩ := I1.tuple hq
    refine call_enumerate_tuple p' fun h' he hit hsz hk => wpAny_pyIter_enum he ?_
    have I2 : Inv X pins σ H1 { s1 with heap := h' } := I1.kept (t' := s1.toks) hk
    refine ⟨s1.heap.objs.size + 1, [s1.heap.objs.size + 1, s1.heap.objs.size], _, _, H1, rfl, I2, turn_enumT a (s1.heap.objs.size + 1) s1.heap.objs.size, ⟨⟨.none, he⟩, hit, Nat.succ_ne_self _⟩, fun b hb => ?_, q⟩
    have e' : b = s1.heap.objs.size + 1 ∨ b = s1.heap.objs.size := by simpa using hb
    have hle : s1.heap.objs.size ≤ b := by
      rcases e' with z | z
      · rw [z]; exact Nat.le_add_right _ _
      · rw [z]; exact Nat.le_refl _
    exact I1.fpOk hle (I1.hok.fresh hle)
/-! ### sorted(t) -/
section
variable {prog : Program} {w : World} {M : Model} {A : Around} {E : Value → Shared → Prop} {s : Shared}
theorem collect_tuple {l : Addr} {vs : List Value} {Q : List Value → Shared → Prop} (hl : s.heap.IsTuple l vs.toArray)
    (h : Q vs { s with heap := (s.heap.push (seqObj "list" #[] 0)).update s.heap.objs.size (Obj.mapSeq (· ++ vs.toArray)) }) (hsz : vs.length ≤ sizeLine := by size_fits) :
    wpAny (model prog w) A (collect (.ref l)) Q E s := by
  obtain ⟨o, ho, hc, n, hd⟩ := id hl
  unfold collect
  refine wpAny_bind (wpAny_runValue (codeAny_builtin entry_proto_collect' ?_))
  show wpAny _ _ (do again (.builtin "list.__iadd__" ⟨[← newList [], .ref l], []⟩)) _ _ s
  refine wpAny_bind (wpAny_newList (wpAny_pure ⟨Code.quiet_builtin _ (by decide +kernel), codeAny_builtin entry_list_iadd' ?_⟩))
  show wpAny _ _ (Builtin.List.listExtendWith (.ref s.heap.objs.size) (.ref l) (.ref s.heap.objs.size)) _ _ { s with heap := s.heap.push (seqObj "list" #[] 0) }
  unfold Builtin.List.listExtendWith
  have ho' : (s.heap.push (seqObj "list" #[] 0)).get? l = some o := Heap.get?_push_of_some _ ho
  refine wpAny_bind (wpAny_typeOf (T := "tuple") ⟨o, ho', hc⟩ ?_)
  have ht : (Value.type "tuple" == Value.type "tuple") = true := by rfl
  rw [if_pos (by rw [ht]; simp)]
  refine wpAny_bind (listItems_at ho' hd ?_)
  refine wpAny_bind (listItems_at (xs := #[]) (n := 0) (Heap.get?_push_size _ rfl) rfl ?_)
  rw [if_neg (by simp)]
  refine wpAny_bind (listUpdate_at (xs := #[]) (n := 0) (Heap.get?_push_size _ rfl) rfl ?_ (Nat.zero_le _) (by show (#[] ++ vs.toArray).size ≤ sizeLine + 1; simp only [Array.size_append, List.size_toArray, List.length_nil]; omega))
  refine wpAny_pure ?_
  show wpAny (model prog w) A (do
      let o ← load s.heap.objs.size
      match o.data with
      | .seq xs _ => pure xs.toList
      | _ => unsupported "internal:collect") Q E { s with heap := (s.heap.push (seqObj "list" #[] 0)).update s.heap.objs.size (Obj.mapSeq (· ++ vs.toArray)) }
  refine wpAny_bind (wpAny_load (get?_update_seq (Heap.get?_push_size _ rfl) _) ?_)
  show wpAny _ _ (pure ((#[] : Array Value) ++ vs.toArray).toList) Q E _
  rw [show ((#[] : Array Value) ++ vs.toArray).toList = vs by simp]
  exact wpAny_pure h
theorem sorted_intsT {l : Addr} {vs : List Value} {ns : List Int} {Q : Value → Shared → Prop} (hl : s.heap.IsTuple l vs.toArray) (hI : IntsAre vs ns) (h64 : vs.length < 64)
    (h : ∀ (out : Array Value) (ns' : List Int), IntsAre out.toList ns' → ns'.Perm ns → ns'.Pairwise (· ≤ ·) → Q (.ref (s.heap.objs.size + 1)) { s with heap := sortedAll s.heap vs out }) :
    wpAny (model prog w) A (call (.builtin "sorted") [.ref l]) Q E s := by
  refine Calls.call_function_entry kind_sorted plain_sorted entry_sorted (args_sorted1 _) ?_
  unfold Builtin.«sorted»
  refine wpAny_bind (m := checkCount "sorted" 1 1 _) (wpAny_pure ?_)
  refine wpAny_bind (collect_tuple hl ?_ (Nat.le_trans (Nat.le_of_lt h64) (by decide)))
  refine wpAny_bind (wpAny_newList ?_)
  have hsz : ((s.heap.push (seqObj "list" #[] 0)).update s.heap.objs.size (Obj.mapSeq (· ++ vs.toArray))).objs.size = s.heap.objs.size + 1 := by
    rw [Heap.size_update, size_push']
  have hoL : (((s.heap.push (seqObj "list" #[] 0)).update s.heap.objs.size (Obj.mapSeq (· ++ vs.toArray))).push (seqObj "list" vs.toArray 0)).get? (s.heap.objs.size + 1) = some (seqObj "list" vs.toArray 0) := by
    rw [← hsz]; exact Heap.get?_push_size _ rfl
  show wpAny _ _ _ _ _ { s with heap := ((s.heap.push (seqObj "list" #[] 0)).update s.heap.objs.size (Obj.mapSeq (· ++ vs.toArray))).push (seqObj "list" vs.toArray 0) }
  rw [hsz]
  refine wpAny_bind (wpAny_holding (wpAny_call_entry slot_list_sort ⟨_, hoL, rfl⟩ entry_list_sort (list_sort_tree hoL hI h64 fun out ns' a1 a2 a3 => ⟨_, rfl, ?_⟩) (args_list_sort _)))
  exact wpAny_pure ⟨_, rfl, h out ns' a1 a2 a3⟩
end
section
variable {X : Cx}
def rSortedT (K : PySem.W.Frag) : List V → Hp → VK → Prop := fun vs H Q => ∃ (a : Addr) (ns : List Int), vs = [V.ref a] ∧ SqT K H a (ns.map V.int) ∧ ns.length < 64 ∧ ∀ (ns' : List Int) (p : Addr), ns'.Perm ns → ns'.Pairwise (· ≤ ·) → H p = none → Q (.ref p) (upd H p (.lst (ns'.map V.int)))
theorem cr_sortedT : CallR X (.builtin "sorted") (rSortedT X.K) := by
  intro pins s σ H vs us Q I r h
  obtain ⟨a, ns, rfl, hs, h64, q⟩ := h
  obtain ⟨its, rv, hl, _⟩ := I.tuple hs
  rw [Vals.ref1 r]
  have hi := rv.ints
  refine sorted_intsT hl hi (by rw [hi.length]; exact h64) fun out ns' h1 h2 h3 => ?_
  obtain ⟨ep, he'⟩ := PyProof.Rows.sortedAll_at s.heap its out
  have hlen : (ns'.map V.int).length ≤ sizeLine := by rw [List.length_map, h2.length_eq]; exact small64 h64
  exact ⟨.ref _, upd H (s.heap.objs.size + 1) (.lst (ns'.map V.int)), I.laid (t' := s.toks) (fun _ _ => PyProof.Rows.sortedAll_old) (Nat.le_succ _) ⟨hlen, out.toList, ep, vals_of_ints h1, he'⟩, rfl, q ns' _ h2 h3 (I.hok.fresh (Nat.le_succ _))⟩
/-- t.index(n), the first place -/
theorem mt_tup_indexI : MtR X "tuple.index" (fun x xs H Q => ∃ p, ∃ ys : List Int, ∃ z j, x = .ref p ∧ xs = [.int z] ∧ SqT X.K H p (ys.map V.int) ∧ ys[j]? = some z ∧ (∀ m, m < j → ys[m]? ≠ some z) ∧ Q (.int (j : Nat)) H) := by
  intro pins s σ H x xs v us Q I rx rs h
  obtain ⟨p, ys, z, j, rfl, rfl, hq, hy, hno, q⟩ := h
  cases rx
  obtain ⟨u, rfl, t, rfl⟩ := vals1 rs
  obtain ⟨its, r, pl, hz⟩ := I.tuple hq
  obtain ⟨⟨cls, dd, dt, sl⟩, ho, hc, n, hd⟩ := pl
  simp only at hc hd
  subst hc
  subst hd
  have hl : its.toArray.size = ys.length := by rw [List.size_toArray, ← r.length, List.length_map]
  have hj : j < its.toArray.size := by rw [hl]; exact (List.getElem?_eq_some_iff.mp hy).1
  have at' : ∀ (m : Nat) (hm : m < its.toArray.size), ∃ y t', ys[m]? = some y ∧ its.toArray[m] = Value.int y t' := fun m hm => by
    have hm' : m < ys.length := by rw [← hl]; exact hm
    obtain ⟨w, hw, t', hw'⟩ := r.get (i := m) (x := .int ys[m]) (by simp [hm'])
    refine ⟨ys[m], t', List.getElem?_eq_getElem hm', ?_⟩
    have e := (List.getElem?_eq_some_iff.mp hw).2
    rw [← hw', ← e]
    simp
  refine call_meets PySem.F.slot_tuple_index ⟨_, ho, rfl⟩ PySem.F.entry_tuple_index (PySem.F.args_tuple_index_2 _ _) (TI.tuple_indexAt p its.toArray n dd sl (.int z t) (eqU (.int z)) j hj ?_ ?_)
    ⟨ho, fun w hw => mem_eqAt (x := .int z) ⟨t, rfl⟩ rfl r (by rw [List.all_map]; exact List.all_eq_true.mpr fun _ _ => rfl) w (by simpa using hw), ⟨.int (j : Nat), H, I.tok _, ⟨_, rfl⟩, q⟩⟩
  · obtain ⟨y, t', h1, h2⟩ := at' j hj
    rw [hy] at h1
    cases h1
    rw [h2]
    show (z == z) = true
    exact beq_self_eq_true z
  · intro m hm hmj
    obtain ⟨y, t', h1, h2⟩ := at' m hm
    rw [h2]
    show (y == z) = false
    exact beq_eq_false_iff_ne.mpr fun e => hno m hmj (e ▸ h1)
end
end Ur

set_option linter.all false
/-! turns of points, as lists: put together, undone, and how often they lead all points back -/
namespace Pm
variable {n p q : Nat} {t u v : List Nat}
/-- where a turn leads a point -/
def to (t : List Nat) (p : Nat) : Nat := t.getD p 0
def Turn (n : Nat) (t : List Nat) : Prop := t.Perm (List.range n)
theorem to_get (h : p < t.length) : to t p = t[p] := by
  unfold to
  rw [List.getD_eq_getElem?_getD, List.getElem?_eq_getElem h]
  rfl
theorem Turn.len (h : Turn n t) : t.length = n := by
  have := h.length_eq
  rw [List.length_range] at this
  exact this
theorem Turn.mem (h : Turn n t) : p ∈ t ↔ p < n := h.mem_iff.trans List.mem_range
theorem Turn.nodup (h : Turn n t) : t.Nodup := h.nodup_iff.mpr List.nodup_range
theorem Turn.lt (h : Turn n t) (hp : p < n) : to t p < n := by
  have hp' : p < t.length := by rw [h.len]; exact hp
  rw [to_get hp']
  exact h.mem.mp (List.getElem_mem hp')
def joint (t u : List Nat) : List Nat := t.map (to u)
theorem range_map (h : u.length = n) : (List.range n).map (to u) = u := by
  apply List.ext_getElem
  · rw [List.length_map, List.length_range, h]
  · intro i h1 h2
    rw [List.getElem_map, List.getElem_range, to_get h2]
theorem turn_joint (h : Turn n t) (k : Turn n u) : Turn n (joint t u) := by
  have := h.map (to u)
  rw [range_map k.len] at this
  exact this.trans k
theorem joint_len : (joint t u).length = t.length := List.length_map ..
theorem to_joint (hp : p < t.length) : to (joint t u) p = to u (to t p) := by
  rw [to_get (by rw [joint_len]; exact hp), to_get hp]
  exact List.getElem_map ..
theorem joint_assoc (h : Turn n t) (k : Turn n u) : joint (joint t u) v = joint t (joint u v) := by
  unfold joint
  rw [List.map_map]
  refine List.map_congr_left fun x hx => ?_
  exact (to_joint (t := u) (u := v) (by rw [k.len]; exact h.mem.mp hx)).symm
theorem to_still (hp : p < n) : to (List.range n) p = p := by
  rw [to_get (by rw [List.length_range]; exact hp), List.getElem_range]
theorem joint_still (h : Turn n t) : joint t (List.range n) = t := by
  unfold joint
  have : t.map (to (List.range n)) = t.map id := List.map_congr_left fun x hx => to_still (h.mem.mp hx)
  rw [this, List.map_id]
theorem still_joint (h : Turn n t) : joint (List.range n) t = t := range_map h.len
theorem still_turn : Turn n (List.range n) := List.Perm.refl _
/-- two turns are the same if they lead all points so -/
theorem turn_ext (h : Turn n t) (k : Turn n u) (e : ∀ p, p < n → to t p = to u p) : t = u := by
  rw [← range_map h.len, ← range_map k.len]
  exact List.map_congr_left fun x hx => e x (List.mem_range.mp hx)
theorem nodup_inj {l : List Nat} (h : l.Nodup) {i j : Nat} (hi : i < l.length) (hj : j < l.length) (e : l[i] = l[j]) : i = j := by
  rcases Nat.lt_trichotomy i j with c | c | c
  · exact absurd e (List.pairwise_iff_getElem.mp h i j hi hj c)
  · exact c
  · exact absurd e.symm (List.pairwise_iff_getElem.mp h j i hj hi c)
def undone (t : List Nat) : List Nat := (List.range t.length).map fun q => t.idxOf q
theorem to_idx (h : Turn n t) (hq : q < n) : to t (t.idxOf q) = q := by
  have hm := h.mem.mpr hq
  rw [to_get (List.idxOf_lt_length_of_mem hm)]
  exact List.getElem_idxOf _
theorem idx_to (h : Turn n t) (hp : p < n) : t.idxOf (to t p) = p := by
  have hp' : p < t.length := by rw [h.len]; exact hp
  have hm : to t p ∈ t := h.mem.mpr (h.lt hp)
  have hl := List.idxOf_lt_length_of_mem hm
  have e : t[t.idxOf (to t p)] = t[p] := by
    rw [List.getElem_idxOf]
    exact to_get hp'
  exact nodup_inj h.nodup hl hp' e
theorem undone_len : (undone t).length = t.length := by
  unfold undone
  rw [List.length_map, List.length_range]
theorem to_undone (h : Turn n t) (hq : q < n) : to (undone t) q = t.idxOf q := by
  have hq' : q < t.length := by rw [h.len]; exact hq
  rw [to_get (by rw [undone_len]; exact hq')]
  unfold undone
  rw [List.getElem_map, List.getElem_range]
theorem turn_undone (h : Turn n t) : Turn n (undone t) := by
  have h1 : undone t = (List.range n).map fun q => t.idxOf q := by unfold undone; rw [h.len]
  have h2 : t.map (fun q => t.idxOf q) = List.range n := by
    apply List.ext_getElem
    · rw [List.length_map, h.len, List.length_range]
    · intro i h3 h4
      rw [List.length_range] at h4
      rw [List.getElem_map, List.getElem_range]
      have := idx_to h h4
      rw [to_get (by rw [h.len]; exact h4)] at this
      exact this
  have h3 := (h.symm).map fun q => t.idxOf q
  rw [h2] at h3
  rw [h1]
  exact h3
theorem joint_undone (h : Turn n t) : joint t (undone t) = List.range n :=
  turn_ext (turn_joint h (turn_undone h)) still_turn fun p hp => by
    rw [to_joint (by rw [h.len]; exact hp), to_undone h (h.lt hp), idx_to h hp, to_still hp]
theorem undone_joint (h : Turn n t) : joint (undone t) t = List.range n :=
  turn_ext (turn_joint (turn_undone h) h) still_turn fun p hp => by
    rw [to_joint (by rw [(turn_undone h).len]; exact hp), to_undone h hp, to_idx h hp, to_still hp]
theorem undone_undone (h : Turn n t) : undone (undone t) = t := by
  have k := turn_undone h
  have e : joint (joint (undone (undone t)) (undone t)) t = joint (undone (undone t)) (joint (undone t) t) := joint_assoc (turn_undone k) k
  rw [undone_joint k, undone_joint h, still_joint h, joint_still (turn_undone k)] at e
  exact e.symm
theorem undone_of_joint (h : Turn n t) (k : Turn n u) : undone (joint t u) = joint (undone u) (undone t) := by
  have hj := turn_joint h k
  have hu := turn_undone hj
  refine turn_ext hu (turn_joint (turn_undone k) (turn_undone h)) fun p hp => ?_
  rw [to_undone hj hp, to_joint (by rw [(turn_undone k).len]; exact hp), to_undone k hp]
  have hp1 : u.idxOf p < n := by
    have := List.idxOf_lt_length_of_mem (k.mem.mpr hp)
    rw [k.len] at this
    exact this
  rw [to_undone h hp1]
  have hp2 : t.idxOf (u.idxOf p) < n := by
    have := List.idxOf_lt_length_of_mem (h.mem.mpr hp1)
    rw [h.len] at this
    exact this
  have e : to (joint t u) (t.idxOf (u.idxOf p)) = p := by rw [to_joint (by rw [h.len]; exact hp2), to_idx h hp1, to_idx k hp]
  have := idx_to hj hp2
  rw [e] at this
  exact this
theorem to_inj (h : Turn n t) (hp : p < n) (hq : q < n) (e : to t p = to t q) : p = q := by
  rw [← idx_to h hp, e, idx_to h hq]
/-! again and again -/
def it (t : List Nat) : Nat → Nat → Nat
  | 0, p => p
  | k + 1, p => to t (it t k p)
theorem it_lt (h : Turn n t) (hp : p < n) : ∀ k, it t k p < n
  | 0 => hp
  | k + 1 => h.lt (it_lt h hp k)
theorem it_add (t : List Nat) (a : Nat) (p : Nat) : ∀ b, it t (b + a) p = it t b (it t a p)
  | 0 => by rw [Nat.zero_add]; rfl
  | b + 1 => by
    rw [show b + 1 + a = (b + a) + 1 by omega]
    show to t (it t (b + a) p) = to t (it t b (it t a p))
    rw [it_add t a p b]
theorem it_comm (t : List Nat) (a b p : Nat) : it t a (it t b p) = it t b (it t a p) := by rw [← it_add, ← it_add, Nat.add_comm]
theorem it_mul {m : Nat} (e : it t m p = p) : ∀ c, it t (m * c) p = p
  | 0 => rfl
  | c + 1 => by
    rw [Nat.mul_succ, it_add, e]
    exact it_mul e c
theorem it_inj (h : Turn n t) (hp : p < n) (hq : q < n) : ∀ k, it t k p = it t k q → p = q
  | 0, e => e
  | k + 1, e => it_inj h hp hq k (to_inj h (it_lt h hp k) (it_lt h hq k) e)
/-- if no earlier one comes back, then all that come back are multiples -/
theorem it_dvd {m : Nat} (h : Turn n t) (hp : p < n) (hm : 0 < m) (e : it t m p = p) (hl : ∀ k, 0 < k → k < m → it t k p ≠ p) (k : Nat) : it t k p = p ↔ m ∣ k := by
  constructor
  · intro hk
    have e2 : it t (k % m) p = p := by
      have := Nat.div_add_mod k m
      have e3 : it t (k % m + m * (k / m)) p = p := by rw [Nat.add_comm, this]; exact hk
      rw [it_add, it_mul e] at e3
      exact e3
    by_cases h0 : k % m = 0
    · exact Nat.dvd_of_mod_eq_zero h0
    · exact absurd e2 (hl _ (Nat.pos_of_ne_zero h0) (Nat.mod_lt _ hm))
  · rintro ⟨c, rfl⟩
    exact it_mul e c
/-- the order: just the multiples lead all points back -/
def Ord (n : Nat) (t : List Nat) (L : Nat) : Prop := 0 < L ∧ ∀ k, (∀ p, p < n → it t k p = p) ↔ L ∣ k
theorem ord_uniq {L M : Nat} (a : Ord n t L) (b : Ord n t M) : L = M :=
  Nat.dvd_antisymm ((a.2 M).mp ((b.2 M).mpr (Nat.dvd_refl M))) ((b.2 L).mp ((a.2 L).mpr (Nat.dvd_refl L)))
theorem ord_undone {L : Nat} (h : Turn n t) (a : Ord n t L) : Ord n (undone t) L := by
  refine ⟨a.1, fun k => Iff.trans ?_ (a.2 k)⟩
  have b1 : ∀ k p, p < n → it t k (it (undone t) k p) = p := by
    intro k
    induction k with
    | zero => intro p hp; rfl
    | succ k ih =>
      intro p hp
      have hq := it_lt (turn_undone h) hp k
      have e : it t (k + 1) (to (undone t) (it (undone t) k p)) = it t k (to t (to (undone t) (it (undone t) k p))) := it_add t 1 _ k
      show it t (k + 1) (to (undone t) (it (undone t) k p)) = p
      rw [e, to_undone h hq, to_idx h hq]
      exact ih p hp
  constructor
  · intro hk p hp
    have := b1 k p hp
    rw [hk p hp] at this
    exact this
  · intro hk p hp
    have := b1 k p hp
    rw [hk _ (it_lt (turn_undone h) hp k)] at this
    exact this
theorem ord_conj {L : Nat} {c d s : List Nat} (hc : Turn n c) (hd : Turn n d) (hs : Turn n s) (e : ∀ p, p < n → to d (to s p) = to s (to c p)) (a : Ord n c L) : Ord n d L := by
  refine ⟨a.1, fun k => Iff.trans ?_ (a.2 k)⟩
  have b1 : ∀ k p, p < n → it d k (to s p) = to s (it c k p) := by
    intro k
    induction k with
    | zero => intro p hp; rfl
    | succ k ih =>
      intro p hp
      show to d (it d k (to s p)) = to s (to c (it c k p))
      rw [ih p hp, e _ (it_lt hc hp k)]
  constructor
  · intro hk p hp
    have := b1 k p hp
    rw [hk _ (hs.lt hp)] at this
    exact (to_inj hs hp (it_lt hc hp k) this).symm
  · intro hk q hq
    have := b1 k (s.idxOf q) (by
      have := List.idxOf_lt_length_of_mem (hs.mem.mpr hq)
      rw [hs.len] at this
      exact this)
    rw [to_idx hs hq, hk _ (by
      have := List.idxOf_lt_length_of_mem (hs.mem.mpr hq)
      rw [hs.len] at this
      exact this), to_idx hs hq] at this
    exact this
theorem ord_one {L : Nat} (h : Turn n t) (a : Ord n t L) : L = 1 ↔ t = List.range n := by
  have e := a.2 1
  constructor
  · intro hl
    refine turn_ext h still_turn fun p hp => ?_
    rw [to_still hp]
    exact e.mpr (by rw [hl]; exact Nat.dvd_refl 1) p hp
  · intro ht
    exact Nat.dvd_one.mp (e.mp fun p hp => by
      show to t p = p
      rw [ht]
      exact to_still hp)
/-- so many of a turn -/
def pw (t : List Nat) : Nat → List Nat
  | 0 => t
  | k + 1 => joint (pw t k) t
theorem turn_pw (h : Turn n t) : ∀ k, Turn n (pw t k)
  | 0 => h
  | k + 1 => turn_joint (turn_pw h k) h
theorem to_pw (h : Turn n t) (hp : p < n) : ∀ k, to (pw t k) p = it t (k + 1) p
  | 0 => rfl
  | k + 1 => by
    show to (joint (pw t k) t) p = to t (it t (k + 1) p)
    rw [to_joint (by rw [(turn_pw h k).len]; exact hp), to_pw h hp k]
theorem pw_still {L k : Nat} (h : Turn n t) (a : Ord n t L) : pw t k = List.range n ↔ L ∣ k + 1 := by
  rw [← a.2 (k + 1)]
  constructor
  · intro e p hp
    rw [← to_pw h hp, e, to_still hp]
  · intro e
    exact turn_ext (turn_pw h k) still_turn fun p hp => by rw [to_pw h hp, e p hp, to_still hp]
end Pm

set_option linter.all false
/-! the rows of points that a turn leads round -/
namespace Pm
variable {n : Nat} {t : List Nat}
theorem len_le : ∀ {l r : List Nat}, l.Nodup → (∀ x ∈ l, x ∈ r) → l.length ≤ r.length
  | [], _, _, _ => Nat.zero_le _
  | a :: l, r, hn, hs => by
    have ha := hs a List.mem_cons_self
    have hn' := List.nodup_cons.mp hn
    have := len_le (l := l) (r := r.erase a) hn'.2 fun x hx => by
      have hne : x ≠ a := fun e => hn'.1 (e ▸ hx)
      exact (List.mem_erase_of_ne hne).mpr (hs x (List.mem_cons_of_mem _ hx))
    have h1 := List.length_erase_of_mem ha
    have h2 := List.length_pos_of_mem ha
    rw [List.length_cons]
    omega
theorem small_len {l : List Nat} (h : l.Nodup) (hl : ∀ x ∈ l, x < n) : l.length ≤ n := by
  have := len_le (r := List.range n) h fun x hx => List.mem_range.mpr (hl x hx)
  rw [List.length_range] at this
  exact this
/-- what is known ahead of the start i -/
structure Out (n : Nat) (t : List Nat) (i : Nat) (S M : List Nat) : Prop where
  nd : S.Nodup
  lt : ∀ p ∈ S, p < n
  cl : ∀ p, p < n → (p ∈ S ↔ to t p ∈ S)
  all : ∀ p, p < i → p ∈ S
  per : ∀ k, (∀ p ∈ S, it t k p = p) ↔ ∀ m ∈ M, m ∣ k
  sz : ∀ m ∈ M, 1 ≤ m ∧ m ≤ n
  ln : M.length ≤ i
def walk (t : List Nat) (s j : Nat) : List Nat := (List.range j).map fun k => it t k s
theorem walk_succ (t : List Nat) (s j : Nat) : walk t s (j + 1) = walk t s j ++ [it t j s] := by
  unfold walk
  rw [List.range_succ, List.map_append]
  rfl
theorem mem_walk {s j x : Nat} : x ∈ walk t s j ↔ ∃ k, k < j ∧ it t k s = x := by
  unfold walk
  rw [List.mem_map]
  constructor
  · rintro ⟨k, hk, e⟩
    exact ⟨k, List.mem_range.mp hk, e⟩
  · rintro ⟨k, hk, e⟩
    exact ⟨k, List.mem_range.mpr hk, e⟩
theorem walk_len (t : List Nat) (s j : Nat) : (walk t s j).length = j := by
  unfold walk
  rw [List.length_map, List.length_range]
/-- what is known on the way from the start s -/
structure In (S : List Nat) (t : List Nat) (s j : Nat) : Prop where
  nd : (walk t s j).Nodup
  off : ∀ x ∈ walk t s j, x ∉ S
theorem in_zero (S : List Nat) (t : List Nat) (s : Nat) : In S t s 0 := ⟨List.nodup_nil, fun x hx => by cases hx⟩
theorem in_succ {S : List Nat} {s j : Nat} (h : In S t s j) (hp : it t j s ∉ S ++ walk t s j) : In S t s (j + 1) := by
  rw [List.mem_append, not_or] at hp
  constructor
  · rw [walk_succ]
    refine List.nodup_append.mpr ⟨h.nd, by simp, fun x hx y hy e => ?_⟩
    rw [List.mem_singleton.mp hy] at e
    exact hp.2 (e ▸ hx)
  · intro x hx
    rw [walk_succ] at hx
    rcases List.mem_append.mp hx with hx | hx
    · exact h.off x hx
    · rw [List.mem_singleton.mp hx]
      exact hp.1
theorem in_le {S : List Nat} {s j : Nat} (ht : Turn n t) (hs : s < n) (h : In S t s j) : j ≤ n := by
  have := small_len (n := n) h.nd fun x hx => by
    obtain ⟨k, _, e⟩ := mem_walk.mp hx
    rw [← e]
    exact it_lt ht hs k
  rw [walk_len] at this
  exact this
theorem out_zero : Out n t 0 [] [] := ⟨List.nodup_nil, (fun p hp => (by cases hp)), (fun p _ => ⟨(fun h => (by cases h)), (fun h => (by cases h))⟩), (fun p hp => absurd hp (Nat.not_lt_zero p)), (fun k => ⟨(fun _ m hm => (by cases hm)), (fun _ p hp => (by cases hp))⟩), (fun m hm => (by cases hm)), Nat.le_refl 0⟩
theorem out_same {i : Nat} {S M : List Nat} (h : Out n t i S M) (hi : i ∈ S) : Out n t (i + 1) S M :=
  ⟨h.nd, h.lt, h.cl, fun p hp => by
    rcases Nat.lt_succ_iff_lt_or_eq.mp hp with c | c
    · exact h.all p c
    · rw [c]; exact hi, h.per, h.sz, by have := h.ln; omega⟩
theorem it_mem {i : Nat} {S M : List Nat} (ht : Turn n t) (h : Out n t i S M) {s : Nat} (hs : s < n) : ∀ k, it t k s ∈ S → s ∈ S
  | 0, e => e
  | k + 1, e => it_mem ht h hs k ((h.cl _ (it_lt ht hs k)).mpr e)
theorem it_back {s j : Nat} {S M : List Nat} {i : Nat} (ht : Turn n t) (h : Out n t i S M) (hs : s < n) (hI : In S t s (j + 1)) (hp : it t (j + 1) s ∈ S ++ walk t s (j + 1)) : it t (j + 1) s = s := by
  have h0 : s ∉ S := hI.off s (mem_walk.mpr ⟨0, Nat.succ_pos j, rfl⟩)
  rcases List.mem_append.mp hp with hp | hp
  · exact absurd (it_mem ht h hs _ hp) h0
  · obtain ⟨k, hk, e⟩ := mem_walk.mp hp
    cases k with
    | zero => exact e.symm
    | succ k =>
      have e2 : it t k s = it t j s := to_inj ht (it_lt ht hs k) (it_lt ht hs j) e
      have hl : (walk t s (j + 1)).length = j + 1 := walk_len ..
      have e3 : (walk t s (j + 1))[k]'(by omega) = (walk t s (j + 1))[j]'(by omega) := by
        unfold walk
        rw [List.getElem_map, List.getElem_map, List.getElem_range, List.getElem_range]
        exact e2
      have := nodup_inj hI.nd _ _ e3
      omega
theorem out_succ {j i : Nat} {S M : List Nat} (ht : Turn n t) (h : Out n t i S M) (hs : i < n) (hI : In S t i (j + 1)) (hp : it t (j + 1) i ∈ S ++ walk t i (j + 1)) : Out n t (i + 1) (S ++ walk t i (j + 1)) (M ++ [j + 1]) := by
  have hb := it_back ht h hs hI hp
  have hne : ∀ k, 0 < k → k < j + 1 → it t k i ≠ i := by
    intro k h0 hk e
    have hl : (walk t i (j + 1)).length = j + 1 := walk_len ..
    have e3 : (walk t i (j + 1))[k]'(by omega) = (walk t i (j + 1))[0]'(by omega) := by
      unfold walk
      rw [List.getElem_map, List.getElem_map, List.getElem_range, List.getElem_range]
      exact e
    have := nodup_inj hI.nd _ _ e3
    omega
  refine ⟨?_, ?_, ?_, ?_, ?_, ?_, ?_⟩
  · refine List.nodup_append.mpr ⟨h.nd, hI.nd, fun x hx y hy e => ?_⟩
    exact hI.off y hy (e ▸ hx)
  · intro p hp'
    rcases List.mem_append.mp hp' with c | c
    · exact h.lt p c
    · obtain ⟨k, _, e⟩ := mem_walk.mp c
      rw [← e]
      exact it_lt ht hs k
  · intro p hpn
    rw [List.mem_append, List.mem_append]
    constructor
    · rintro (c | c)
      · exact .inl ((h.cl p hpn).mp c)
      · obtain ⟨k, hk, e⟩ := mem_walk.mp c
        refine .inr (mem_walk.mpr ?_)
        by_cases hk2 : k + 1 < j + 1
        · exact ⟨k + 1, hk2, by show to t (it t k i) = to t p; rw [e]⟩
        · have : k = j := by omega
          subst this
          exact ⟨0, by omega, by
            show i = to t p
            rw [← e]
            exact hb.symm⟩
    · rintro (c | c)
      · exact .inl ((h.cl p hpn).mpr c)
      · obtain ⟨k, hk, e⟩ := mem_walk.mp c
        refine .inr (mem_walk.mpr ?_)
        cases k with
        | zero =>
          refine ⟨j, Nat.lt_succ_self j, to_inj ht (it_lt ht hs j) hpn ?_⟩
          exact hb.trans e
        | succ k => exact ⟨k, by omega, to_inj ht (it_lt ht hs k) hpn e⟩
  · intro p hp'
    rcases Nat.lt_succ_iff_lt_or_eq.mp hp' with c | c
    · exact List.mem_append_left _ (h.all p c)
    · rw [c]
      exact List.mem_append_right _ (mem_walk.mpr ⟨0, Nat.succ_pos j, rfl⟩)
  · intro k
    have e1 : (∀ p ∈ walk t i (j + 1), it t k p = p) ↔ (j + 1) ∣ k := by
      rw [← it_dvd ht hs (Nat.succ_pos j) hb hne k]
      constructor
      · intro a
        exact a i (mem_walk.mpr ⟨0, Nat.succ_pos j, rfl⟩)
      · intro a p hp'
        obtain ⟨m, _, e⟩ := mem_walk.mp hp'
        rw [← e, it_comm, a]
    constructor
    · intro a m hm
      rcases List.mem_append.mp hm with c | c
      · exact (h.per k).mp (fun p hp' => a p (List.mem_append_left _ hp')) m c
      · rw [List.mem_singleton.mp c]
        exact e1.mp fun p hp' => a p (List.mem_append_right _ hp')
    · intro a p hp'
      rcases List.mem_append.mp hp' with c | c
      · exact (h.per k).mpr (fun m hm => a m (List.mem_append_left _ hm)) p c
      · exact e1.mpr (a _ (List.mem_append_right _ (List.mem_singleton.mpr rfl))) p c
  · intro m hm
    rcases List.mem_append.mp hm with c | c
    · exact h.sz m c
    · rw [List.mem_singleton.mp c]
      exact ⟨by omega, in_le ht hs hI⟩
  · have := h.ln
    rw [List.length_append, List.length_singleton]
    omega
/-- what the lengths tell -/
structure Lens (n : Nat) (t : List Nat) (M : List Nat) : Prop where
  per : ∀ k, (∀ p, p < n → it t k p = p) ↔ ∀ m ∈ M, m ∣ k
  sz : ∀ m ∈ M, 1 ≤ m ∧ m ≤ n
  ln : M.length ≤ n
theorem out_end {S M : List Nat} (h : Out n t n S M) : Lens n t M :=
  ⟨fun k => Iff.trans ⟨fun a p hp => a p (h.lt p hp), fun a p hp => a p (h.all p hp)⟩ (h.per k), h.sz, h.ln⟩
def lcmOf (M : List Nat) : Nat := M.foldl (fun a m => Nat.lcm a m) 1
theorem lcm_dvd (k : Nat) : ∀ (M : List Nat) (a : Nat), M.foldl (fun a m => Nat.lcm a m) a ∣ k ↔ a ∣ k ∧ ∀ m ∈ M, m ∣ k
  | [], a => by simp
  | m :: M, a => by
    show M.foldl (fun a m => Nat.lcm a m) (Nat.lcm a m) ∣ k ↔ _
    rw [lcm_dvd k M, Nat.lcm_dvd_iff]
    constructor
    · rintro ⟨⟨h1, h2⟩, h3⟩
      refine ⟨h1, fun x hx => ?_⟩
      rcases List.mem_cons.mp hx with rfl | hx
      · exact h2
      · exact h3 x hx
    · rintro ⟨h1, h2⟩
      exact ⟨⟨h1, h2 m List.mem_cons_self⟩, fun x hx => h2 x (List.mem_cons_of_mem _ hx)⟩
theorem lcm_take {M : List Nat} {i m : Nat} (h : M[i]? = some m) : lcmOf (M.take (i + 1)) = Nat.lcm (lcmOf (M.take i)) m := by
  unfold lcmOf
  rw [List.take_add_one, h, List.foldl_append]
  rfl
theorem lcm_pos : ∀ (M : List Nat), (∀ m ∈ M, 1 ≤ m) → ∀ a, 0 < a → 0 < M.foldl (fun a m => Nat.lcm a m) a
  | [], _, a, h => h
  | m :: M, hM, a, h => lcm_pos M (fun x hx => hM x (List.mem_cons_of_mem _ hx)) _ (Nat.lcm_pos h (hM m List.mem_cons_self))
theorem lcm_bound {b : Nat} (hb : 1 ≤ b) : ∀ (M : List Nat), (∀ m ∈ M, m ≤ b) → ∀ a, M.foldl (fun a m => Nat.lcm a m) a ≤ a * b ^ M.length
  | [], _, a => by simp
  | m :: M, hM, a => by
    have h1 := lcm_bound hb M (fun x hx => hM x (List.mem_cons_of_mem _ hx)) (Nat.lcm a m)
    have h2 : Nat.lcm a m ≤ a * m := by
      unfold Nat.lcm
      exact Nat.div_le_self _ _
    have h3 : a * m ≤ a * b := Nat.mul_le_mul_left _ (hM m List.mem_cons_self)
    show M.foldl (fun a m => Nat.lcm a m) (Nat.lcm a m) ≤ a * b ^ (M.length + 1)
    refine Nat.le_trans h1 (Nat.le_trans (Nat.mul_le_mul_right _ (Nat.le_trans h2 h3)) ?_)
    rw [Nat.pow_succ, Nat.mul_assoc, Nat.mul_comm b]
    exact Nat.le_refl _
theorem ord_lcm {M : List Nat} (h : Lens n t M) : Ord n t (lcmOf M) :=
  ⟨lcm_pos M (fun m hm => (h.sz m hm).1) 1 Nat.one_pos, fun k => by
    rw [h.per k]
    unfold lcmOf
    rw [lcm_dvd k M 1]
    exact ⟨fun a => ⟨Nat.one_dvd k, a⟩, fun a => a.2⟩⟩
end Pm

set_option Elab.async false
set_option linter.all false
set_option maxRecDepth 100000
set_option maxHeartbeats 3200000
namespace K58
open PySem L2 Tx Tg Tm Sm
/-! ### steps on the heap -/
def svals : Stp → List V
  | .txt z => [.str "text", .str z]
  | .join i j => [.str "join", .int (i : Int), .int (j : Int)]
  | .pow i k => [.str "power", .int (i : Int), .int (k : Int)]
def StpAt (H : Hp) (p : Addr) (s : Stp) : Prop := H p = some (.tup (svals s))
abbrev StpsAt (H : Hp) (ps : List Addr) (ss : List Stp) : Prop := PySem.W.EachIs (StpAt H) ps ss
def RowS (H : Hp) (p : Addr) (ss : List Stp) : Prop := ∃ ps : List Addr, H p = some (.tup (ps.map V.ref)) ∧ StpsAt H ps ss
def LstS (H : Hp) (p : Addr) (ss : List Stp) : Prop := ∃ ps : List Addr, H p = some (.lst (ps.map V.ref)) ∧ StpsAt H ps ss
/-- no tuple stands there -/
def NoT (H : Hp) (a : Addr) : Prop := ∀ xs, H a ≠ some (.tup xs)
theorem NoT.none {H : Hp} {a : Addr} (h : H a = none) : NoT H a := fun xs e => by rw [h] at e; cases e
theorem NoT.lst {H : Hp} {a : Addr} {xs : List V} (h : H a = some (.lst xs)) : NoT H a := fun ys e => by rw [h] at e; cases e
theorem NoT.dK {H : Hp} {a : Addr} {xs : List (Key × V)} (h : H a = some (.dK xs)) : NoT H a := fun ys e => by rw [h] at e; cases e
theorem NoT.ins {H : Hp} {a C dx : Addr} {fs : List (Str × V)} (h : H a = some (.ins C dx fs)) : NoT H a := fun ys e => by rw [h] at e; cases e
theorem Cup.noT {H : Hp} {c : Addr} (h : Cup H c) : NoT H c := let ⟨_, _, _, e⟩ := h; .lst e
/-- tuples stay -/
def KeepT (H H' : Hp) : Prop := ∀ p xs, H p = some (.tup xs) → H' p = some (.tup xs)
theorem KeepT.same {H H' : Hp} (s : Same H H') : KeepT H H' := fun _ _ e => s _ _ e
theorem KeepT.upd {H : Hp} {a : Addr} {o : HO} (n : NoT H a) : KeepT H (upd H a o) := fun p xs e => by
  rw [upd_ne fun z => n xs (by rw [← z]; exact e)]
  exact e
theorem KeepT.but {H H' : Hp} {c : Addr} (n : NoT H c) (b : But c H H') : KeepT H H' := fun p xs e => b _ _ (fun z => n xs (by rw [← z]; exact e)) e
theorem KeepT.trans {H H1 H2 : Hp} (a : KeepT H H1) (b : KeepT H1 H2) : KeepT H H2 := fun p xs e => b p xs (a p xs e)
theorem StpsAt.keep {H H' : Hp} {ps : List Addr} {ss : List Stp} (k : KeepT H H') (h : StpsAt H ps ss) : StpsAt H' ps ss := PySem.W.EachIs.mono (fun p s e => k _ _ e) h
theorem RowS.keep {H H' : Hp} {p : Addr} {ss : List Stp} (k : KeepT H H') (h : RowS H p ss) : RowS H' p ss := let ⟨ps, e, hp⟩ := h; ⟨ps, k _ _ e, hp.keep k⟩
theorem LstS.keep {H H' : Hp} {p : Addr} {ss : List Stp} (k : KeepT H H') (l : ∀ xs, H p = some (.lst xs) → H' p = some (.lst xs)) (h : LstS H p ss) : LstS H' p ss := let ⟨ps, e, hp⟩ := h; ⟨ps, l _ e, hp.keep k⟩
theorem LstS.same {H H' : Hp} {p : Addr} {ss : List Stp} (s : Same H H') (h : LstS H p ss) : LstS H' p ss := h.keep (.same s) fun _ e => s _ _ e
theorem steps_len {H : Hp} {ps : List Addr} {ss : List Stp} (h : StpsAt H ps ss) : ps.length = ss.length := h.length
theorem steps_at {H : Hp} : ∀ {ps : List Addr} {ss : List Stp}, StpsAt H ps ss → ∀ (i : Nat) (hi : i < ps.length), ∃ s, ss[i]? = some s ∧ StpAt H ps[i] s
  | [], _, _, i, hi => absurd hi (Nat.not_lt_zero _)
  | p :: ps, _, .cons (b := s) (bs := ss) h r, i, hi => by
    cases i with
    | zero => exact ⟨s, rfl, h⟩
    | succ i => exact steps_at r i (Nat.lt_of_succ_lt_succ hi)
theorem refs_at {ps : List Addr} {i : Nat} (h : i < ps.length) : (ps.map V.ref)[i]? = some (.ref ps[i]) := by
  rw [List.getElem?_map, List.getElem?_eq_getElem h]
  rfl
theorem each_app {α β : Type} {R : α → β → Prop} : ∀ {as as' : List α} {bs bs' : List β}, PySem.W.EachIs R as bs → PySem.W.EachIs R as' bs' → PySem.W.EachIs R (as ++ as') (bs ++ bs')
  | _, _, _, _, .nil, r => r
  | _, _, _, _, .cons r t, q => .cons r (each_app t q)
theorem each_snoc {α β : Type} {R : α → β → Prop} {as : List α} {bs : List β} {a : α} {b : β} (h : PySem.W.EachIs R as bs) (r : R a b) : PySem.W.EachIs R (as ++ [a]) (bs ++ [b]) := each_app h (.cons r .nil)
theorem same_put {H H' : Hp} {D : Addr} {o : HO} (s : Same H H') (n : H D = none) : Same H (upd H' D o) := fun b u e => by
  rw [upd_ne (ne_of_none e n)]
  exact s b u e
theorem free_none {H H' : Hp} {p : Addr} (s : Same H H') (n : H' p = none) : H p = none := by
  cases hh : H p with
  | none => rfl
  | some o =>
    have := s _ _ hh
    rw [n] at this
    cases this
theorem ty_tup {K : PySem.W.Frag} {H : Hp} {a : Addr} {xs : List V} (h : SqT K H a xs) : TyX K H (.ref a) (.type "tuple") := by
  rcases h with h | ⟨o, its, n, hk, hc, _⟩
  · rcases h with h | ⟨o, h⟩
    · exact .base (.tup h)
    · exact .fTuple h
  · exact .kTuple hk hc
theorem k_tuple_tuple : kitB "tuple" "tuple" = some true := by decide +kernel
theorem sg_range {sg : Str} (h : Signs sg) : ∀ c ∈ cds sg, 97 ≤ c ∧ c ≤ 122 := by
  rcases h with rfl | rfl | rfl | rfl <;> decide +kernel
theorem sg_len {sg : Str} (h : Signs sg) : 0 < sg.length ∧ sg.length ≤ 3 := by
  rcases h with rfl | rfl | rfl | rfl <;> decide +kernel
/-- a text over the letters -/
def Over (sg z : Str) : Prop := ∀ c ∈ cds z, c ∈ cds sg
theorem over_fine {sg z : Str} (h : Signs sg) (v : Over sg z) (hl : z.length ≤ 4000) : Fine z := by
  refine ⟨by omega, ?_, fun c hc => ?_⟩
  · rw [← (ups_perm (cds z)).length_eq]
    have h1 := Pm.len_le (ups_nodup (cds z)) (r := cds sg) fun c hc => v c ((ups_mem _ c).mp hc)
    have h2 : (cds sg).length ≤ 6 := by rw [cds_len]; have := (sg_len h).2; omega
    omega
  · have := sg_range h c (v c hc)
    omega
theorem over_has {sg z : Str} (v : Over sg z) (hl : z.length ≤ 4000) : has sg 4000 (.str z) = true := by
  show (decide (z.length ≤ 4000) && only z sg) = true
  rw [decide_eq_true hl, only_iff.mpr v]
  rfl
theorem nat_isInt {n : Nat} (h : n < 10 ^ 200) : isInt (.int (n : Int)) = true := by
  show decide ((n : Int).natAbs < 10 ^ 200) = true
  rw [Int.natAbs_natCast]
  exact decide_eq_true h
theorem dec_str (a b : Str) : decide (V.str a = V.str b) = decide (a = b) := decide_eq_decide.mpr ⟨fun e => by injection e, fun e => by rw [e]⟩
/-- a step that may be told at a place -/
def okStp (sg : Str) (n : Nat) : Stp → Prop
  | .txt z => Over sg z ∧ z.length ≤ 100
  | .join i j => i < n ∧ j < n
  | .pow i k => i < n ∧ k ≤ 10 ^ 100
def okStps (sg : Str) (ss : List Stp) : Prop := ∀ i s, ss[i]? = some s → okStp sg i s
theorem okStps.good {sg : Str} {ss : List Stp} (h : okStps sg ss) : Good ss := fun i s e => by
  have := h i s e
  cases s with
  | txt z => trivial
  | join a b => exact this
  | pow a k => exact this.1
section
variable {P : Program} {w : World} {K : PySem.W.Frag} {mg : Str → Option Value} {base : Heap}
def spText : Sp := fun vs H Q _ => ∃ sg z : Str, vs = [.str sg, .str z] ∧ Signs sg ∧ Over sg z ∧ z.length ≤ 100 ∧ ∀ H', Same H H' → Q (.bl true) H'
theorem scText : FnScope ["letters", "value"] ["letters", "value"] (defScope sText) := ⟨rfl, rfl, rfl, by decide +kernel, rfl, by decide +kernel, by decide +kernel⟩
/-- the names that judge letters and texts -/
structure Low (K : PySem.W.Frag) (mg : Str → Option Value) (fI fH fL fC fT : Addr) (dI dH dL dC dT : FuncData) : Prop where
  DI : Df K mg "is_integer" sInt ["value"] fI dI
  DH : Df K mg "has_only" sHas ["value", "signs", "most"] fH dH
  DL : Df K mg "is_letters" sLetters ["value"] fL dL
  DC : Df K mg "check_letters" sCheck ["value"] fC dC
  DT : Df K mg "is_text" sText ["letters", "value"] fT dT
theorem ok_text {f fI fH fL fC fT : Addr} {fd dI dH dL dC dT : FuncData} (F : Fun K "is_text" "is_text" sText f fd) (T : Txt K mg) (G : Low K mg fI fH fL fC fT dI dH dL dC dT) : FnOk P w K mg base CX0 4 f fd ["letters", "value"] spText := by
  have GC := ok_passL (P := P) (w := w) (base := base) G.DC.F T G.DH G.DL
  have GH := ok_has (P := P) (w := w) (base := base) G.DH.F T
  refine F.ok scText (fun vs H Q E h => ?_) (fun cdv A outer s H vs Q E hr h => ?_)
  · obtain ⟨sg, z, rfl, _⟩ := h
    rfl
  · obtain ⟨sg, z, rfl, hsg, hz, hl, q⟩ := h
    obtain ⟨tn, hn⟩ := T.mText
    refine ⟨_, pss_cons (ps_expr (pe_call GC hr (by rfl) G.DC.m G.DC.F.kp G.DC.b .nil pass0 (pa_cons (pv 0) pa_nil)))
      (pss_one (ps_ret (pe_call GH (hr.mono (by decide)) (by rfl) G.DH.m G.DH.F.kp G.DH.b .nil pass0 (pa_cons (pv 1) (pa_cons (pv 0) (pa_cons (pe_glob (v := .int 4000) rfl hn ⟨_, rfl⟩) pa_nil)))))), ?_⟩
    refine ⟨_, rfl, sg, rfl, hsg, fun H' s' => ?_⟩
    refine ⟨_, rfl, _, rfl, .str z, .str z, sg, 4000, rfl, .str z, over_fine hsg hz (by omega), ?_⟩
    rw [over_has hz (by omega)]
    exact q H' s'
def spCText : Sp := fun vs H Q _ => ∃ sg z : Str, vs = [.str sg, .str z] ∧ Signs sg ∧ Over sg z ∧ z.length ≤ 100 ∧ ∀ H', Same H H' → Q .non H'
theorem scCText : FnScope ["letters", "value"] ["letters", "value"] (defScope sCText) := ⟨rfl, rfl, rfl, by decide +kernel, rfl, by decide +kernel, by decide +kernel⟩
theorem ok_ctext {f fI fH fL fC fT : Addr} {fd dI dH dL dC dT : FuncData} (F : Fun K "check_text" "check_text" sCText f fd) (T : Txt K mg) (G : Low K mg fI fH fL fC fT dI dH dL dC dT) : FnOk P w K mg base CX0 5 f fd ["letters", "value"] spCText := by
  have GT := ok_text (P := P) (w := w) (base := base) G.DT.F T G
  refine F.ok scCText (fun vs H Q E h => ?_) (fun cdv A outer s H vs Q E hr h => ?_)
  · obtain ⟨sg, z, rfl, _⟩ := h
    rfl
  · obtain ⟨sg, z, rfl, hsg, hz, hl, q⟩ := h
    refine ⟨_, pss_one (ps_if (pt_not (pt_val (pe_call GT hr (by rfl) G.DT.m G.DT.F.kp G.DT.b .nil pass0 (pa_cons (pv 0) (pa_cons (pv 1) pa_nil))))) (pss_one ps_never) pss_nil), ?_⟩
    exact ⟨_, rfl, _, rfl, sg, z, rfl, hsg, hz, hl, fun H' s' => ⟨_, rfl, iteF (q H' s')⟩⟩
def spBetween : Sp := fun vs H Q _ => ∃ (v lo hi : Nat), vs = [.int (v : Int), .int (lo : Int), .int (hi : Int)] ∧ lo ≤ v ∧ v ≤ hi ∧ v < 10 ^ 200 ∧ Q .non H
theorem scBetween : FnScope ["value", "least", "most"] ["value", "least", "most"] (defScope sBetween) := ⟨rfl, rfl, rfl, by decide +kernel, rfl, by decide +kernel, by decide +kernel⟩
theorem ok_between {f fI : Addr} {fd fdI : FuncData} (F : Fun K "check_between" "check_between" sBetween f fd) (T : Txt K mg) (DI : Df K mg "is_integer" sInt ["value"] fI fdI) : FnOk P w K mg base CX0 2 f fd ["value", "least", "most"] spBetween := by
  have G := ok_int (P := P) (w := w) (base := base) DI.F T
  refine F.ok scBetween (fun vs H Q E h => ?_) (fun cdv A outer s H vs Q E hr h => ?_)
  · obtain ⟨v, lo, hi, rfl, _⟩ := h
    rfl
  · obtain ⟨v, lo, hi, rfl, h1, h2, h3, q⟩ := h
    refine ⟨_, pss_one (ps_if (PW.pt (pw_or (pt_not (pt_val (pe_call G hr (by rfl) DI.m DI.F.kp DI.b .nil pass0 (pa_cons (pv 0) pa_nil)))) (pw_or (pt_cmpR op_lt (pv 0) (pv 1) (nomark _)) (pw_or1 (pt_cmpR op_gt (pv 0) (pv 2) (nomark _)))))) (pss_one ps_never) pss_nil), ?_⟩
    refine ⟨_, rfl, .int (v : Int), .int (v : Int), rfl, .int _, ?_⟩
    rw [nat_isInt h3]
    refine ⟨_, rfl, iteF ?_⟩
    refine ⟨_, rfl, _, rfl, _, _, rfl, rfl, _, rfl, ?_⟩
    rw [decide_eq_false (show ¬ (v : Int) < (lo : Int) by omega)]
    refine iteF ?_
    refine ⟨_, rfl, _, rfl, _, _, rfl, rfl, _, rfl, ?_⟩
    rw [decide_eq_false (show ¬ (v : Int) > (hi : Int) by omega)]
    exact iteF q
def spMost : Sp := fun vs H Q _ => ∃ (v m : Nat), vs = [.int (v : Int), .int (m : Int)] ∧ v ≤ m ∧ Q .non H
theorem scMost : FnScope ["many", "limit"] ["many", "limit"] (defScope sMost) := ⟨rfl, rfl, rfl, by decide +kernel, rfl, by decide +kernel, by decide +kernel⟩
theorem ok_most {f : Addr} {fd : FuncData} (F : Fun K "check_most" "check_most" sMost f fd) (T : Txt K mg) : FnOk P w K mg base CX0 1 f fd ["many", "limit"] spMost := by
  refine F.ok scMost (fun vs H Q E h => ?_) (fun cdv A outer s H vs Q E hr h => ?_)
  · obtain ⟨v, m, rfl, _⟩ := h
    rfl
  · obtain ⟨v, m, rfl, h1, q⟩ := h
    refine ⟨_, pss_one (ps_if (pt_cmpR op_gt (pv 0) (pv 1) (nomark _)) (pss_one ps_never) pss_nil), ?_⟩
    refine ⟨_, rfl, _, rfl, _, _, rfl, rfl, _, rfl, ?_⟩
    rw [decide_eq_false (show ¬ (v : Int) > (m : Int) by omega)]
    exact iteF q
def spIsB : Sp := fun vs H Q _ => ∃ (v : Nat) (m : Int), vs = [.int (v : Int), .int m] ∧ v < 10 ^ 200 ∧ Q (.bl (decide ((v : Int) ≤ m))) H
theorem scIsB : FnScope ["value", "most"] ["value", "most"] (defScope sIsBetween) := ⟨rfl, rfl, rfl, by decide +kernel, rfl, by decide +kernel, by decide +kernel⟩
theorem ok_isb {f fI : Addr} {fd fdI : FuncData} (F : Fun K "is_between" "is_between" sIsBetween f fd) (T : Txt K mg) (DI : Df K mg "is_integer" sInt ["value"] fI fdI) : FnOk P w K mg base CX0 2 f fd ["value", "most"] spIsB := by
  have G := ok_int (P := P) (w := w) (base := base) DI.F T
  refine F.ok scIsB (fun vs H Q E h => ?_) (fun cdv A outer s H vs Q E hr h => ?_)
  · obtain ⟨v, m, rfl, _⟩ := h
    rfl
  · obtain ⟨v, m, rfl, h1, q⟩ := h
    refine ⟨_, pss_one (ps_ret (pe_and (pe_call G hr (by rfl) DI.m DI.F.kp DI.b .nil pass0 (pa_cons (pv 0) pa_nil)) (pe_one (pe_chain op_le op_le pe_int (pv 0) (pv 1))))), ?_⟩
    refine ⟨_, rfl, .int (v : Int), .int (v : Int), rfl, .int _, ?_⟩
    rw [nat_isInt h1]
    refine ⟨true, rfl, iteT ?_⟩
    refine ⟨_, rfl, _, _, rfl, rfl, true, congrArg V.bl (decide_eq_true (by omega)), iteT ?_⟩
    exact ⟨_, rfl, _, _, rfl, rfl, q⟩
def spIsStep : Sp := fun vs H Q _ => ∃ (sg : Str) (a : Addr) (s : Stp) (n : Nat), vs = [.str sg, .ref a, .int (n : Int)] ∧ Signs sg ∧ StpAt H a s ∧ okStp sg n s ∧ n ≤ 1000 ∧ ∀ H', Same H H' → Q (.bl true) H'
theorem scIsStep : FnScope ["letters", "value", "at"] ["letters", "value", "at"] (defScope sIsStep) := ⟨rfl, rfl, rfl, by decide +kernel, rfl, by decide +kernel, by decide +kernel⟩
theorem ok_isstep {f fB fI fH fL fC fT : Addr} {fd dB dI dH dL dC dT : FuncData} (F : Fun K "is_step" "is_step" sIsStep f fd) (T : Txt K mg) (G : Low K mg fI fH fL fC fT dI dH dL dC dT) (DB : Df K mg "is_between" sIsBetween ["value", "most"] fB dB) : FnOk P w K mg base CX0 5 f fd ["letters", "value", "at"] spIsStep := by
  have GT := ok_text (P := P) (w := w) (base := base) G.DT.F T G
  have GB := ok_isb (P := P) (w := w) (base := base) DB.F T G.DI
  refine F.ok scIsStep (fun vs H Q E h => ?_) (fun cdv A outer s H vs Q E hr h => ?_)
  · obtain ⟨sg, a, s, n, rfl, _⟩ := h
    rfl
  · obtain ⟨sg, a, s, n, rfl, hsg, ha, ok, hn, q⟩ := h
    have r2 : Room 2 _ := hr.mono (by decide)
    obtain ⟨tm, gm⟩ := T.mNum
    refine ⟨_, pss_cons (ps_if (PW.pt (pw_or (pt_not (pt_val (pe_callB call_isi (by rfl) T.isi (by decide +kernel) (pa_cons (pv 1) (pa_cons (pe_bltn (v := .ty "tuple") (by rfl) T.tuple (by decide +kernel) rfl) pa_nil)))))
        (pw_or1 (pt_cmpR op_notIn_seq (pe_callB call_len_seq (by rfl) T.len PySem.boot_len (pa_cons (pv 1) pa_nil)) (pe_tup (pa_cons pe_int (pa_cons pe_int pa_nil))) (by rfl))))) (pss_one (ps_ret pe_bl)) pss_nil)
      (pss_cons (ps_if (pt_cmpR op_eq (pe_callB call_len_seq (by rfl) T.len PySem.boot_len (pa_cons (pv 1) pa_nil)) pe_int (nomark _))
        (pss_one (ps_ret (pe_and (pe_cmpR op_eq (pe_ix ix_tup (pv 1) pe_int (fun _ _ => rfl)) pe_str (nomark _)) (pe_one (pe_call GT hr (by rfl) G.DT.m G.DT.F.kp G.DT.b .nil pass0 (pa_cons (pv 0) (pa_cons (pe_ix ix_tup (pv 1) pe_int (fun _ _ => rfl)) pa_nil))))))) pss_nil)
      (pss_cons (ps_if (pt_cmpR op_eq (pe_ix ix_tup (pv 1) pe_int (fun _ _ => rfl)) pe_str (nomark _))
        (pss_one (ps_ret (pe_and (pe_call GB r2 (by rfl) DB.m DB.F.kp DB.b .nil pass0 (pa_cons (pe_ix ix_tup (pv 1) pe_int (fun _ _ => rfl)) (pa_cons (pe_op op_sub (pv 2) pe_int) pa_nil)))
          (pe_one (pe_call GB r2 (by rfl) DB.m DB.F.kp DB.b .nil pass0 (pa_cons (pe_ix ix_tup (pv 1) pe_int (fun _ _ => rfl)) (pa_cons (pe_op op_sub (pv 2) pe_int) pa_nil))))))) pss_nil)
      (pss_one (ps_ret (pe_and (pe_cmpR op_eq (pe_ix ix_tup (pv 1) pe_int (fun _ _ => rfl)) pe_str (nomark _)) (pe_and (pe_call GB r2 (by rfl) DB.m DB.F.kp DB.b .nil pass0 (pa_cons (pe_ix ix_tup (pv 1) pe_int (fun _ _ => rfl)) (pa_cons (pe_op op_sub (pv 2) pe_int) pa_nil)))
        (pe_one (pe_call GB r2 (by rfl) DB.m DB.F.kp DB.b .nil pass0 (pa_cons (pe_ix ix_tup (pv 1) pe_int (fun _ _ => rfl)) (pa_cons (pe_glob (v := .int (10 ^ 100)) rfl gm ⟨_, rfl⟩) pa_nil)))))))))), ?_⟩
    have ht : SqT K H a (svals s) := SqT.of ha
    refine ⟨_, rfl, _, _, _, _, _, rfl, .ty "tuple", ty_tup ht, kit_ty k_tuple_tuple, true, rfl, iteF ?_⟩
    refine ⟨_, rfl, a, svals s, rfl, .inr ht, (by show 2 ≤ sizeLine; decide), fun p np => ?_⟩
    have s1 := same_upd (o := .tup [V.int 2, V.int 3]) np
    have e1 : (upd H p (.tup [V.int 2, V.int 3])) p = some (.tup [V.int 2, V.int 3]) := upd_same
    generalize upd H p (.tup [V.int 2, V.int 3]) = H1 at s1 e1 ⊢
    have ha1 : StpAt H1 a s := s1 _ _ ha
    have ht1 : SqT K H1 a (svals s) := SqT.of ha1
    refine ⟨p, [V.int 2, V.int 3], rfl, .inr (SqT.of e1), rfl, rfl, _, rfl, ?_⟩
    cases s with
    | txt z =>
      refine iteF ?_
      refine ⟨_, rfl, a, _, rfl, .inr ht1, rfl, _, rfl, ?_⟩
      refine iteT ?_
      refine ⟨_, rfl, a, _, 0, .str "text", rfl, rfl, ht1, rfl, rfl, true, ?_, iteT ?_⟩
      · exact congrArg V.bl (decide_eq_true rfl)
      · exact ⟨_, rfl, _, rfl, a, _, 1, .str z, rfl, rfl, ht1, rfl, sg, z, rfl, hsg, ok.1, ok.2, fun H2 s2 => q H2 (s1.trans s2)⟩
    | join i j =>
      refine iteF ?_
      refine ⟨_, rfl, a, _, rfl, .inr ht1, rfl, _, rfl, ?_⟩
      refine iteF ?_
      refine ⟨_, rfl, a, _, 0, .str "join", rfl, rfl, ht1, rfl, rfl, _, rfl, ?_⟩
      rw [decide_eq_true rfl]
      refine iteT ?_
      have lt1 : i < 10 ^ 200 := Nat.lt_of_lt_of_le (show i < 1000 by have := ok.1; omega) (by decide +kernel)
      have lt2 : j < 10 ^ 200 := Nat.lt_of_lt_of_le (show j < 1000 by have := ok.2; omega) (by decide +kernel)
      refine ⟨_, rfl, a, _, 1, .int (i : Int), rfl, rfl, ht1, rfl, _, rfl, _, _, rfl, rfl, i, _, rfl, lt1, true, ?_, iteT ?_⟩
      · exact congrArg V.bl (decide_eq_true (by have := ok.1; omega))
      · refine ⟨_, rfl, a, _, 2, .int (j : Int), rfl, rfl, ht1, rfl, _, rfl, _, _, rfl, rfl, j, _, rfl, lt2, ?_⟩
        rw [decide_eq_true (by have := ok.2; omega)]
        exact q H1 s1
    | pow i k =>
      refine iteF ?_
      refine ⟨_, rfl, a, _, rfl, .inr ht1, rfl, _, rfl, ?_⟩
      refine iteF ?_
      refine ⟨_, rfl, a, _, 0, .str "power", rfl, rfl, ht1, rfl, rfl, _, rfl, ?_⟩
      rw [decide_eq_false (show ¬ (V.str "power" = V.str "join") by decide +kernel)]
      refine iteF ?_
      have lt1 : i < 10 ^ 200 := Nat.lt_of_lt_of_le (show i < 1000 by have := ok.1; omega) (by decide +kernel)
      have lt2 : k < 10 ^ 200 := Nat.lt_of_le_of_lt ok.2 (by decide +kernel)
      refine ⟨_, rfl, a, _, 0, .str "power", rfl, rfl, ht1, rfl, rfl, true, congrArg V.bl (decide_eq_true rfl), iteT ?_⟩
      refine ⟨_, rfl, a, _, 1, .int (i : Int), rfl, rfl, ht1, rfl, _, rfl, _, _, rfl, rfl, i, _, rfl, lt1, true, ?_, iteT ?_⟩
      · exact congrArg V.bl (decide_eq_true (by have := ok.1; omega))
      · refine ⟨_, rfl, a, _, 2, .int (k : Int), rfl, rfl, ht1, rfl, k, _, rfl, lt2, ?_⟩
        have hk := ok.2
        have e : decide ((k : Int) ≤ 10 ^ 100) = true := decide_eq_true (by
          have : ((10 ^ 100 : Nat) : Int) = 10 ^ 100 := by norm_cast
          omega)
        rw [e]
        exact q H1 s1
end
end K58

set_option Elab.async false
set_option linter.all false
set_option maxRecDepth 100000
set_option maxHeartbeats 3200000
namespace K58
open PySem L2 Tx Tg Tm Sm
abbrev intsV (l : List Nat) : List V := l.map fun (n : Nat) => V.int (n : Int)
theorem intsV_app (l m : List Nat) : intsV (l ++ m) = intsV l ++ intsV m := List.map_append
theorem intsV_at {l : List Nat} {i n : Nat} (h : l[i]? = some n) : (intsV l)[i]? = some (.int (n : Int)) := by
  rw [List.getElem?_map, h]
  rfl
theorem lc_enumT {K : PySem.W.Frag} {a : Addr} {xs : List V} {g : TG} {tt : TT} {te : TE} {vs : List Nat} {σ : L2.St} {H1 : Hp} {D : Addr} {Qd : Hp → Prop} (Pv : Nat → Hp → Prop) (h0 : Pv 0 (upd H1 D (.lst []))) (hl : ∀ i H, i ≤ xs.length → Pv i H → SqT K H a xs)
    (hs : ∀ i x H T, xs[i]? = some x → H T = none → Pv i H → g (.ref T) (wipe σ vs) (upd H T (.tup [.int (i : Nat), x])) fun σ2 H2 => wipe σ2 vs = wipe σ vs ∧ tt σ2 H2 fun b H3 =>
      if b = true then te σ2 H3 fun y H4 => ∃ acc, H4 D = some (.lst acc) ∧ acc.length < sizeLine ∧ Pv (i + 1) (upd H4 D (.lst (acc ++ [y]))) else Pv (i + 1) H3) (hd : ∀ H, Pv xs.length H → Qd H) :
    ∃ W : Nat → Nat → Hp → Prop, (∃ m, W 0 m (upd H1 D (.lst []))) ∧ ∀ i m H, W i m H →
      ((Ur.IteT K a).stop i H ∧ Qd H) ∨ ((Ur.IteT K a).go i H ∧ ∃ Nx : Hp → Prop, (∀ H', Nx H' → ∃ m', m' < m ∧ W (i + 1) m' H') ∧ ∀ x H', (Ur.IteT K a).yld i H x H' → g x (wipe σ vs) H' fun σ2 H2 => wipe σ2 vs = wipe σ vs ∧ tt σ2 H2 fun b H3 =>
        if b = true then te σ2 H3 fun y H4 => ∃ acc, H4 D = some (.lst acc) ∧ acc.length < sizeLine ∧ Nx (upd H4 D (.lst (acc ++ [y]))) else Nx H3) := by
  refine ⟨fun i m H => m = xs.length - i ∧ i ≤ xs.length ∧ Pv i H, ⟨xs.length, by simp, Nat.zero_le _, h0⟩, ?_⟩
  rintro i m H ⟨rfl, hi, p⟩
  have q := hl i H hi p
  by_cases hlt : i < xs.length
  · refine .inr ⟨⟨xs, xs[i], q, by simp [hlt]⟩, Pv (i + 1), fun H' p' => ⟨xs.length - (i + 1), by omega, rfl, hlt, p'⟩, fun x H' y => ?_⟩
    obtain ⟨T, z, rfl, hT, rfl, hz⟩ := y
    exact hs i z _ T (hz xs q) hT p
  · have e : i = xs.length := by omega
    subst e
    exact .inl ⟨⟨xs, q, rfl⟩, hd H p⟩
section
variable {P : Program} {w : World} {K : PySem.W.Frag} {mg : Str → Option Value} {base : Heap}
abbrev nAre : List Str := ["letters", "value", "most", "at", "step"]
def spAre : Sp := fun vs H Q _ => ∃ (sg : Str) (a : Addr) (ss : List Stp) (m : Nat), vs = [.str sg, .ref a, .int (m : Int)] ∧ Signs sg ∧ RowS H a ss ∧ okStps sg ss ∧ 1 ≤ ss.length ∧ ss.length ≤ m ∧ m ≤ 1000 ∧ ∀ H', Same H H' → Q (.bl true) H'
theorem scAre : FnScope nAre ["letters", "value", "most"] (defScope sAreSteps) := ⟨rfl, rfl, rfl, by decide +kernel, rfl, by decide +kernel, by decide +kernel⟩
theorem ok_are {f fS fB fI fH fL fC fT : Addr} {fd dS dB dI dH dL dC dT : FuncData} (F : Fun K "are_steps" "are_steps" sAreSteps f fd) (T : Txt K mg) (G : Low K mg fI fH fL fC fT dI dH dL dC dT) (DB : Df K mg "is_between" sIsBetween ["value", "most"] fB dB)
    (DS : Df K mg "is_step" sIsStep ["letters", "value", "at"] fS dS) : FnOk P w K mg base CX0 6 f fd ["letters", "value", "most"] spAre := by
  have GS := ok_isstep (P := P) (w := w) (base := base) DS.F T G DB
  refine F.ok scAre (fun vs H Q E h => ?_) (fun cdv A outer s H vs Q E hr h => ?_)
  · obtain ⟨sg, a, ss, m, rfl, _⟩ := h
    rfl
  · obtain ⟨sg, a, ss, m, rfl, hsg, ha, ok, l1, lm, m1000, q⟩ := h
    refine ⟨_, pss_cons (ps_if (PW.pt (pw_or (pt_not (pt_val (pe_callB call_isi (by rfl) T.isi (by decide +kernel) (pa_cons (pv 1) (pa_cons (pe_bltn (v := .ty "tuple") (by rfl) T.tuple (by decide +kernel) rfl) pa_nil)))))
        (pw_or1 (pt_not (pt_chain op_le op_le pe_int (pe_callB call_len_seq (by rfl) T.len PySem.boot_len (pa_cons (pv 1) pa_nil)) (pv 2)))))) (pss_one (ps_ret pe_bl)) pss_nil)
      (pss_one (ps_ret (pe_callB (cr_all rfl) (by rfl) T.all (by decide +kernel) (pa_cons (pe_lc (own := [("at", 3), ("step", 4)]) (g := gTup K 2 (gCons (gName 3) (gCons (gName 4) gNil))) (tt := tYes) rfl scAre.nd (Ur.pi_enumT (by rfl) T.enum (pa_cons (pv 1) pa_nil))
        (blkOk_by (own := [("at", 3), ("step", 4)]) (N := nAre) (sc := defScope sAreSteps) (by decide +kernel))
        (fun _ _ _ _ _ => pg_tup rfl (pgs_cons (pg_name (i := 3) scAre.nd rfl (Or.inl rfl)) (pgs_cons (pg_name (i := 4) scAre.nd rfl (Or.inl rfl)) pgs_nil))) (fun _ _ _ _ _ => pts_nil)
        (fun _ _ _ _ _ => pe_call GS hr (by rfl) DS.m DS.F.kp DS.b .nil pass0 (pa_cons (pv 0) (pa_cons (pv 4) (pa_cons (pv 3) pa_nil))))) pa_nil)))), ?_⟩
    obtain ⟨ps, ea, hps⟩ := id ha
    have lps := steps_len hps
    have ht : SqT K H a (ps.map V.ref) := SqT.of ea
    refine ⟨_, rfl, _, _, _, _, _, rfl, .ty "tuple", ty_tup ht, kit_ty k_tuple_tuple, true, rfl, iteF ?_⟩
    refine ⟨_, rfl, a, _, rfl, .inr ht, _, _, rfl, rfl, true, ?_, iteT ⟨_, rfl, _, _, rfl, rfl, true, ?_, iteF ?_⟩⟩
    · exact congrArg V.bl (decide_eq_true (by rw [List.length_map, lps]; omega))
    · exact congrArg V.bl (decide_eq_true (by rw [List.length_map, lps]; omega))
    refine ⟨_, rfl, a, ps.map V.ref, rfl, ht, fun D hD => ?_⟩
    refine lc_enumT (K := K) (xs := ps.map V.ref) (fun i H1 => Same H H1 ∧ H1 D = some (.lst ((List.replicate i true).map V.bl))) ⟨same_upd hD, upd_same⟩ (fun i H1 _ z => SqT.of (z.1 _ _ ea)) ?_ ?_
    · rintro i x H1 W hx nW ⟨s1, e1⟩
      have hi := (List.getElem?_eq_some_iff.mp hx).1
      rw [List.length_map] at hi
      rw [refs_at hi] at hx
      cases hx
      have sW := same_upd (o := .tup [.int (i : Nat), .ref ps[i]]) nW
      have s2 := s1.trans sW
      obtain ⟨st, hst, hat⟩ := steps_at (hps.keep (.same s2)) i hi
      refine ⟨W, _, rfl, SqT.of upd_same, rfl, _, _, rfl, _, _, rfl, rfl, rfl, iteT (B := False) ?_⟩
      refine ⟨_, rfl, _, rfl, _, rfl, sg, ps[i], st, i, rfl, hsg, hat, ok i st hst, by omega, fun H2 s3 => ?_⟩
      refine ⟨_, s3 _ _ (sW _ _ e1), ?_, same_put (s2.trans s3) hD, ?_⟩
      · rw [List.length_map, List.length_replicate]
        exact Nat.lt_of_le_of_lt (show i ≤ 1000 by omega) (by decide)
      · rw [upd_same, List.replicate_succ', List.map_append]
        rfl
    · rintro H1 ⟨s1, e1⟩
      have hall : (List.replicate (ps.map V.ref).length true).all id = true := List.all_eq_true.mpr fun b hb => by rw [(List.mem_replicate.mp hb).2]; rfl
      refine ⟨D, _, rfl, SqL.of e1, ?_⟩
      rw [hall]
      exact q H1 s1
/-! ### sizes -/
theorem big400 {n : Nat} (h : n < 10 ^ 400) : ((n : Nat) : Int).natAbs < 2 ^ 1400 := by
  rw [Int.natAbs_natCast]
  exact Nat.lt_trans h (by decide +kernel)
theorem big100 {n : Nat} (h : n ≤ 10 ^ 100) : ((n : Nat) : Int).natAbs < 2 ^ 400 := by
  rw [Int.natAbs_natCast]
  exact Nat.lt_of_le_of_lt h (by decide +kernel)
abbrev nSizes : List Str := ["steps", "limit", "sizes", "step", "many"]
def spSizes : Sp := fun vs H Q _ => ∃ (sg : Str) (a : Addr) (ss : List Stp), vs = [.ref a, .int (10 ^ 400)] ∧ RowS H a ss ∧ okStps sg ss ∧ ss.length ≤ 1000 ∧ (∀ i, i < ss.length → Z ss i < 10 ^ 400) ∧ ∀ p H', Same H H' → H' p = some (.tup (intsV (sizes ss))) → Q (.ref p) H'
theorem scSizes : FnScope nSizes ["steps", "limit"] (defScope sSizes) := ⟨rfl, rfl, rfl, by decide +kernel, rfl, by decide +kernel, by decide +kernel⟩
theorem sizes_len (ss : List Stp) : (sizes ss).length = ss.length := by
  unfold sizes
  rw [List.length_map, List.length_range]
theorem sizes_take {ss : List Stp} {i : Nat} (h : i < ss.length) : (sizes ss).take (i + 1) = (sizes ss).take i ++ [Z ss i] := by
  rw [List.take_add_one, sizes_get h]
  rfl
theorem take_at {ss : List Stp} {i j : Nat} (h : i < ss.length) (hj : j < i) : ((sizes ss).take i)[j]? = some (Z ss j) := by
  rw [List.getElem?_take, if_pos hj, sizes_get (by omega)]
theorem ok_sizes {f : Addr} {fd : FuncData} (F : Fun K "step_sizes" "step_sizes" sSizes f fd) (T : Txt K mg) : FnOk P w K mg base CX0 1 f fd ["steps", "limit"] spSizes := by
  refine F.ok scSizes (fun vs H Q E h => ?_) (fun cdv A outer s H vs Q E hr h => ?_)
  · obtain ⟨sg, a, ss, rfl, _⟩ := h
    rfl
  · obtain ⟨sg, a, ss, rfl, ha, ok, hl, hz, q⟩ := h
    refine ⟨_, pss_cons (ps_set (i := 2) scSizes.nd rfl (Or.inl rfl) (pe_lst pa_nil))
      (pss_cons (ps_for PassesOwn.never rfl (pi_tup (pv 0)) (pg_name (i := 3) scSizes.nd rfl (Or.inl rfl))
        (pss_cons (ps_if (pt_cmpR op_eq (pe_ix ix_tup (pv 3) pe_int (fun _ _ => rfl)) pe_str (nomark _))
            (pss_one (ps_set (i := 4) scSizes.nd rfl (Or.inl rfl) (pe_callB call_len (by rfl) T.len PySem.boot_len (pa_cons (pe_ix ix_tup (pv 3) pe_int (fun _ _ => rfl)) pa_nil))))
            (pss_one (ps_if (pt_cmpR op_eq (pe_ix ix_tup (pv 3) pe_int (fun _ _ => rfl)) pe_str (nomark _))
              (pss_one (ps_set (i := 4) scSizes.nd rfl (Or.inl rfl) (pe_op op_add (pe_ix ix_list (pv 2) (pe_ix ix_tup (pv 3) pe_int (fun _ _ => rfl)) (fun _ _ => rfl)) (pe_ix ix_list (pv 2) (pe_ix ix_tup (pv 3) pe_int (fun _ _ => rfl)) (fun _ _ => rfl)))))
              (pss_one (ps_set (i := 4) scSizes.nd rfl (Or.inl rfl) (pe_op op_mulW (pe_ix ix_list (pv 2) (pe_ix ix_tup (pv 3) pe_int (fun _ _ => rfl)) (fun _ _ => rfl)) (pe_ix ix_tup (pv 3) pe_int (fun _ _ => rfl))))))))
        (pss_cons (ps_if (pt_cmpR op_ge (pv 4) (pv 1) (nomark _)) (pss_one ps_never) pss_nil)
        (pss_one (ps_expr (pe_bm PySem.F.plainAttrs_list PySem.F.slot_list_append PySem.F.type_list_append mt_append (pv 2) (pa_cons (pv 4) pa_nil)))))))
      (pss_one (ps_ret (pe_callTy call_tuple_of (by rfl) T.tuple (by decide +kernel) (pa_cons (pv 2) pa_nil))))), ?_⟩
    obtain ⟨ps, ea, hps⟩ := id ha
    have lps := steps_len hps
    refine ⟨Nat.zero_le _, fun D nD => ?_⟩
    have sD := same_upd (o := .lst []) nD
    refine ⟨_, rfl, a, rfl, ⟨_, SqT.of (sD _ _ ea)⟩, ?_⟩
    refine for_tup (xs := ps.map V.ref) (fun i σ H1 => ∃ t3 t4 : Option V, σ = [some (.ref a), some (.int (10 ^ 400)), some (.ref D), t3, t4] ∧ Same H H1 ∧ H1 D = some (.lst (intsV ((sizes ss).take i))))
      ⟨none, none, rfl, sD, upd_same⟩ (fun i σ H1 _ z => by obtain ⟨_, _, _, s1, _⟩ := z; exact SqT.of (s1 _ _ ea)) ?_ ?_
    · rintro i x σ H1 hx ⟨t3, t4, rfl, s1, e1⟩
      have hi := (List.getElem?_eq_some_iff.mp hx).1
      rw [List.length_map] at hi
      rw [refs_at hi] at hx
      cases hx
      have hi2 : i < ss.length := by omega
      obtain ⟨st, hst, hat⟩ := steps_at (hps.keep (.same s1)) i hi
      have ht : SqT K H1 ps[i] (svals st) := SqT.of hat
      have ok1 := ok i st hst
      have ez := Z_at ok.good hst
      have big : ¬ ((Z ss i : Nat) : Int) ≥ 10 ^ 400 := by
        have h1 := hz i hi2
        have h2 : ((10 ^ 400 : Nat) : Int) = 10 ^ 400 := by norm_cast
        omega
      have lenD : (intsV ((sizes ss).take i)).length < sizeLine := by
        rw [List.length_map, List.length_take]
        exact Nat.lt_of_le_of_lt (show _ ≤ 1000 by omega) (by decide)
      cases st with
      | txt z =>
        refine ⟨_, rfl, ps[i], _, 0, .str "text", rfl, rfl, ht, rfl, rfl, _, rfl, ?_⟩
        rw [decide_eq_true rfl]
        refine iteT ?_
        refine ⟨_, rfl, ps[i], _, 1, .str z, rfl, rfl, ht, rfl, _, z.length, rfl, ⟨Nat.le_trans ok1.2 (by decide), rfl⟩, ?_⟩
        have ee : ((z.length : Nat) : Int) = ((Z ss i : Nat) : Int) := by rw [ez]; rfl
        rw [ee]
        refine ⟨_, rfl, _, rfl, _, _, rfl, rfl, _, rfl, ?_⟩
        rw [decide_eq_false (show ¬ (((Z ss i : Nat) : Int) : Int) ≥ 10 ^ 400 from big)]
        refine iteF ?_
        refine ⟨_, rfl, .inl ⟨rfl, _, SqL.of e1⟩, _, rfl, D, _, _, rfl, rfl, e1, lenD, _, _, rfl, same_put s1 nD, ?_⟩
        rw [upd_same, sizes_take hi2, intsV_app]
        rfl
      | join b c =>
        have hb := take_at hi2 ok1.1
        have hc := take_at hi2 ok1.2
        refine ⟨_, rfl, ps[i], _, 0, .str "join", rfl, rfl, ht, rfl, rfl, _, rfl, ?_⟩
        rw [decide_eq_false (show ¬ (V.str "join" = V.str "text") by decide +kernel)]
        refine iteF ?_
        refine ⟨_, rfl, ps[i], _, 0, .str "join", rfl, rfl, ht, rfl, rfl, _, rfl, ?_⟩
        rw [decide_eq_true rfl]
        refine iteT ?_
        refine ⟨_, rfl, _, rfl, ps[i], _, 1, .int (b : Int), rfl, rfl, ht, rfl, D, _, (b : Int), _, rfl, rfl, SqL.of e1, atI_nat (intsV_at hb), ?_⟩
        refine ⟨_, rfl, _, rfl, ps[i], _, 2, .int (c : Int), rfl, rfl, ht, rfl, D, _, (c : Int), _, rfl, rfl, SqL.of e1, atI_nat (intsV_at hc), ?_⟩
        refine ⟨_, _, rfl, rfl, ?_⟩
        have ee : ((Z ss b : Nat) : Int) + ((Z ss c : Nat) : Int) = ((Z ss i : Nat) : Int) := by
          rw [ez]
          exact (Int.natCast_add ..).symm
        show tSeq _ _ _ [some (V.ref a), some (V.int (10 ^ 400)), some (V.ref D), some (V.ref ps[i]), some (V.int (((Z ss b : Nat) : Int) + ((Z ss c : Nat) : Int)))] H1
        rw [ee]
        refine ⟨_, rfl, _, rfl, _, _, rfl, rfl, _, rfl, ?_⟩
        rw [decide_eq_false (show ¬ (((Z ss i : Nat) : Int) : Int) ≥ 10 ^ 400 from big)]
        refine iteF ?_
        refine ⟨_, rfl, .inl ⟨rfl, _, SqL.of e1⟩, _, rfl, D, _, _, rfl, rfl, e1, lenD, _, _, rfl, same_put s1 nD, ?_⟩
        rw [upd_same, sizes_take hi2, intsV_app]
        rfl
      | pow b k =>
        have hb := take_at hi2 ok1.1
        have zb := hz b (by have := ok1.1; omega)
        refine ⟨_, rfl, ps[i], _, 0, .str "power", rfl, rfl, ht, rfl, rfl, _, rfl, ?_⟩
        rw [decide_eq_false (show ¬ (V.str "power" = V.str "text") by decide +kernel)]
        refine iteF ?_
        refine ⟨_, rfl, ps[i], _, 0, .str "power", rfl, rfl, ht, rfl, rfl, _, rfl, ?_⟩
        rw [decide_eq_false (show ¬ (V.str "power" = V.str "join") by decide +kernel)]
        refine iteF ?_
        refine ⟨_, rfl, _, rfl, ps[i], _, 1, .int (b : Int), rfl, rfl, ht, rfl, D, _, (b : Int), _, rfl, rfl, SqL.of e1, atI_nat (intsV_at hb), ?_⟩
        refine ⟨_, rfl, ps[i], _, 2, .int (k : Int), rfl, rfl, ht, rfl, ?_⟩
        refine ⟨_, _, rfl, rfl, wide_mul (big400 zb) (big100 ok1.2) (by decide) (by decide) (by decide), ?_⟩
        have ee : ((Z ss b : Nat) : Int) * ((k : Nat) : Int) = ((Z ss i : Nat) : Int) := by
          rw [ez]
          exact (Int.natCast_mul ..).symm
        show tSeq _ _ _ [some (V.ref a), some (V.int (10 ^ 400)), some (V.ref D), some (V.ref ps[i]), some (V.int (((Z ss b : Nat) : Int) * ((k : Nat) : Int)))] H1
        rw [ee]
        refine ⟨_, rfl, _, rfl, _, _, rfl, rfl, _, rfl, ?_⟩
        rw [decide_eq_false (show ¬ (((Z ss i : Nat) : Int) : Int) ≥ 10 ^ 400 from big)]
        refine iteF ?_
        refine ⟨_, rfl, .inl ⟨rfl, _, SqL.of e1⟩, _, rfl, D, _, _, rfl, rfl, e1, lenD, _, _, rfl, same_put s1 nD, ?_⟩
        rw [upd_same, sizes_take hi2, intsV_app]
        rfl
    · rintro σ H1 ⟨t3, t4, rfl, s1, e1⟩
      rw [List.length_map, List.take_of_length_le (by rw [sizes_len]; omega)] at e1
      exact ⟨_, rfl, D, _, rfl, .inl ⟨SqL.of e1, fun p np => q p _ (s1.trans (same_upd np)) upd_same⟩⟩
/-! ### moved up, made of -/
abbrev nShift : List Str := ["steps", "many", "shifted", "step"]
def spShift : Sp := fun vs H Q _ => ∃ (a : Addr) (ss : List Stp) (m : Nat), vs = [.ref a, .int (m : Int)] ∧ RowS H a ss ∧ ss.length ≤ 1000 ∧ ∀ p H', Same H H' → RowS H' p (ss.map (shift m)) → Q (.ref p) H'
theorem scShift : FnScope nShift ["steps", "many"] (defScope sShifted) := ⟨rfl, rfl, rfl, by decide +kernel, rfl, by decide +kernel, by decide +kernel⟩
theorem add_cast (i m : Nat) : V.int (((i : Nat) : Int) + ((m : Nat) : Int)) = V.int (((i + m : Nat)) : Int) := congrArg V.int (Int.natCast_add ..).symm
theorem ok_shift {f : Addr} {fd : FuncData} (F : Fun K "shifted_steps" "shifted_steps" sShifted f fd) (T : Txt K mg) : FnOk P w K mg base CX0 1 f fd ["steps", "many"] spShift := by
  refine F.ok scShift (fun vs H Q E h => ?_) (fun cdv A outer s H vs Q E hr h => ?_)
  · obtain ⟨a, ss, m, rfl, _⟩ := h
    rfl
  · obtain ⟨a, ss, m, rfl, ha, hl, q⟩ := h
    refine ⟨_, pss_cons (ps_set (i := 2) scShift.nd rfl (Or.inl rfl) (pe_lst pa_nil))
      (pss_cons (ps_for PassesOwn.never rfl (pi_tup (pv 0)) (pg_name (i := 3) scShift.nd rfl (Or.inl rfl))
        (pss_one (ps_if (pt_cmpR op_eq (pe_ix ix_tup (pv 3) pe_int (fun _ _ => rfl)) pe_str (nomark _))
          (pss_one (ps_expr (pe_bm PySem.F.plainAttrs_list PySem.F.slot_list_append PySem.F.type_list_append mt_append (pv 2) (pa_cons (pe_tup (pa_cons pe_str (pa_cons (pe_op op_add (pe_ix ix_tup (pv 3) pe_int (fun _ _ => rfl)) (pv 1)) (pa_cons (pe_op op_add (pe_ix ix_tup (pv 3) pe_int (fun _ _ => rfl)) (pv 1)) pa_nil)))) pa_nil))))
          (pss_one (ps_if (pt_cmpR op_eq (pe_ix ix_tup (pv 3) pe_int (fun _ _ => rfl)) pe_str (nomark _))
            (pss_one (ps_expr (pe_bm PySem.F.plainAttrs_list PySem.F.slot_list_append PySem.F.type_list_append mt_append (pv 2) (pa_cons (pe_tup (pa_cons pe_str (pa_cons (pe_op op_add (pe_ix ix_tup (pv 3) pe_int (fun _ _ => rfl)) (pv 1)) (pa_cons (pe_ix ix_tup (pv 3) pe_int (fun _ _ => rfl)) pa_nil)))) pa_nil))))
            (pss_one (ps_expr (pe_bm PySem.F.plainAttrs_list PySem.F.slot_list_append PySem.F.type_list_append mt_append (pv 2) (pa_cons (pv 3) pa_nil)))))))))
      (pss_one (ps_ret (pe_callTy call_tuple_of (by rfl) T.tuple (by decide +kernel) (pa_cons (pv 2) pa_nil))))), ?_⟩
    obtain ⟨ps, ea, hps⟩ := id ha
    have lps := steps_len hps
    refine ⟨Nat.zero_le _, fun D nD => ?_⟩
    have sD := same_upd (o := .lst []) nD
    refine ⟨_, rfl, a, rfl, ⟨_, SqT.of (sD _ _ ea)⟩, ?_⟩
    refine for_tup (xs := ps.map V.ref) (fun i σ H1 => ∃ t3 : Option V, σ = [some (.ref a), some (.int (m : Int)), some (.ref D), t3] ∧ Same H H1 ∧ LstS H1 D ((ss.take i).map (shift m)))
      ⟨none, rfl, sD, [], upd_same, .nil⟩ (fun i σ H1 _ z => by obtain ⟨_, _, s1, _⟩ := z; exact SqT.of (s1 _ _ ea)) ?_ ?_
    · rintro i x σ H1 hx ⟨t3, rfl, s1, qs, e1, hqs⟩
      have hi := (List.getElem?_eq_some_iff.mp hx).1
      rw [List.length_map] at hi
      rw [refs_at hi] at hx
      cases hx
      obtain ⟨st, hst, hat⟩ := steps_at (hps.keep (.same s1)) i hi
      have ht : SqT K H1 ps[i] (svals st) := SqT.of hat
      have lq := steps_len hqs
      have lenD : (qs.map V.ref).length < sizeLine := by
        rw [List.length_map, lq, List.length_map, List.length_take]
        exact Nat.lt_of_le_of_lt (show _ ≤ 1000 by omega) (by decide)
      have et : (ss.take (i + 1)).map (shift m) = (ss.take i).map (shift m) ++ [shift m st] := by
        rw [List.take_add_one, hst, List.map_append]
        rfl
      have fin : ∀ (p : Addr) (H2 : Hp), Same H1 H2 → StpAt H2 p (shift m st) → LstS (upd H2 D (.lst (qs.map V.ref ++ [V.ref p]))) D ((ss.take (i + 1)).map (shift m)) := fun p H2 s2 h2 => by
        rw [et]
        have k := KeepT.upd (o := .lst (qs.map V.ref ++ [V.ref p])) (NoT.lst (s2 _ _ e1))
        exact ⟨qs ++ [p], by rw [upd_same, List.map_append]; rfl, each_snoc ((hqs.keep (.same s2)).keep k) (k _ _ h2)⟩
      cases st with
      | txt z =>
        refine ⟨_, rfl, ps[i], _, 0, .str "text", rfl, rfl, ht, rfl, rfl, _, rfl, ?_⟩
        rw [decide_eq_false (show ¬ (V.str "text" = V.str "join") by decide +kernel)]
        refine iteF ?_
        refine ⟨_, rfl, ps[i], _, 0, .str "text", rfl, rfl, ht, rfl, rfl, _, rfl, ?_⟩
        rw [decide_eq_false (show ¬ (V.str "text" = V.str "power") by decide +kernel)]
        refine iteF ?_
        exact ⟨_, rfl, .inl ⟨rfl, _, SqL.of e1⟩, _, rfl, D, _, _, rfl, rfl, e1, lenD, _, rfl, same_put s1 nD, fin ps[i] H1 (Same.refl _) hat⟩
      | join b c =>
        refine ⟨_, rfl, ps[i], _, 0, .str "join", rfl, rfl, ht, rfl, rfl, _, rfl, ?_⟩
        rw [decide_eq_true rfl]
        refine iteT ?_
        refine ⟨_, rfl, .inl ⟨rfl, _, SqL.of e1⟩, _, rfl, ps[i], _, 1, .int (b : Int), rfl, rfl, ht, rfl, _, rfl, _, _, rfl, rfl, _, rfl, ps[i], _, 2, .int (c : Int), rfl, rfl, ht, rfl, _, rfl, _, _, rfl, rfl, (by show 3 ≤ sizeLine; decide), fun p np => ?_⟩
        have s2 := same_upd (o := .tup [V.str "join", V.int ((b : Int) + (m : Int)), V.int ((c : Int) + (m : Int))]) np
        refine ⟨D, _, _, rfl, rfl, s2 _ _ e1, lenD, _, rfl, same_put (s1.trans s2) nD, fin p _ s2 ?_⟩
        have ea1 := add_cast b m
        have ea2 := add_cast c m
        show upd H1 p (.tup [V.str "join", V.int ((b : Int) + (m : Int)), V.int ((c : Int) + (m : Int))]) p = some (.tup [V.str "join", V.int ((b + m : Nat) : Int), V.int ((c + m : Nat) : Int)])
        rw [upd_same, ea1, ea2]
      | pow b k =>
        refine ⟨_, rfl, ps[i], _, 0, .str "power", rfl, rfl, ht, rfl, rfl, _, rfl, ?_⟩
        rw [decide_eq_false (show ¬ (V.str "power" = V.str "join") by decide +kernel)]
        refine iteF ?_
        refine ⟨_, rfl, ps[i], _, 0, .str "power", rfl, rfl, ht, rfl, rfl, _, rfl, ?_⟩
        rw [decide_eq_true rfl]
        refine iteT ?_
        refine ⟨_, rfl, .inl ⟨rfl, _, SqL.of e1⟩, _, rfl, ps[i], _, 1, .int (b : Int), rfl, rfl, ht, rfl, _, rfl, _, _, rfl, rfl, _, rfl, ps[i], _, 2, .int (k : Int), rfl, rfl, ht, rfl, (by show 3 ≤ sizeLine; decide), fun p np => ?_⟩
        have s2 := same_upd (o := .tup [V.str "power", V.int ((b : Int) + (m : Int)), V.int (k : Int)]) np
        refine ⟨D, _, _, rfl, rfl, s2 _ _ e1, lenD, _, rfl, same_put (s1.trans s2) nD, fin p _ s2 ?_⟩
        have ea1 := add_cast b m
        show upd H1 p (.tup [V.str "power", V.int ((b : Int) + (m : Int)), V.int (k : Int)]) p = some (.tup [V.str "power", V.int ((b + m : Nat) : Int), V.int (k : Int)])
        rw [upd_same, ea1]
    · rintro σ H1 ⟨t3, rfl, s1, qs, e1, hqs⟩
      rw [List.length_map, List.take_of_length_le (by omega)] at hqs
      exact ⟨_, rfl, D, _, rfl, .inl ⟨SqL.of e1, fun p np => q p _ (s1.trans (same_upd np)) ⟨qs, upd_same, hqs.keep (.same (same_upd np))⟩⟩⟩
def spBelow : Sp := fun vs H Q _ => ∃ (a : Addr) (s : Stp), vs = [.ref a] ∧ StpAt H a s ∧ ∀ p H', Same H H' → H' p = some (.tup (intsV (below s))) → Q (.ref p) H'
theorem scBelow : FnScope ["step"] ["step"] (defScope sBelow) := ⟨rfl, rfl, rfl, by decide +kernel, rfl, by decide +kernel, by decide +kernel⟩
theorem ok_below {f : Addr} {fd : FuncData} (F : Fun K "steps_below" "steps_below" sBelow f fd) (T : Txt K mg) : FnOk P w K mg base CX0 1 f fd ["step"] spBelow := by
  refine F.ok scBelow (fun vs H Q E h => ?_) (fun cdv A outer s H vs Q E hr h => ?_)
  · obtain ⟨a, s, rfl, _⟩ := h
    rfl
  · obtain ⟨a, st, rfl, hat, q⟩ := h
    refine ⟨_, pss_cons (ps_if (pt_cmpR op_eq (pe_ix ix_tup (pv 0) pe_int (fun _ _ => rfl)) pe_str (nomark _)) (pss_one (ps_ret (pe_slice sl_tupA (pv 0) (po_some pe_int) po_none))) pss_nil)
      (pss_one (ps_ret (pe_ifExp (PW.pt (pw_and (pt_cmpR op_eq (pe_ix ix_tup (pv 0) pe_int (fun _ _ => rfl)) pe_str (nomark _)) (pw_and1 (pt_cmpR op_gt (pe_ix ix_tup (pv 0) pe_int (fun _ _ => rfl)) pe_int (nomark _)))))
        (pe_slice sl_tupA (pv 0) (po_some pe_int) (po_some pe_int)) (pe_tup pa_nil)))), ?_⟩
    have ht : SqT K H a (svals st) := SqT.of hat
    cases st with
    | txt z =>
      refine ⟨_, rfl, a, _, 0, .str "text", rfl, rfl, ht, rfl, rfl, _, rfl, ?_⟩
      rw [decide_eq_false (show ¬ (V.str "text" = V.str "join") by decide +kernel)]
      refine iteF ?_
      refine ⟨_, rfl, a, _, 0, .str "text", rfl, rfl, ht, rfl, rfl, _, rfl, ?_⟩
      rw [decide_eq_false (show ¬ (V.str "text" = V.str "power") by decide +kernel)]
      refine iteF (iteF ?_)
      exact ⟨Nat.zero_le _, fun p np => q p _ (same_upd np) upd_same⟩
    | join b c =>
      refine ⟨_, rfl, a, _, 0, .str "join", rfl, rfl, ht, rfl, rfl, _, rfl, ?_⟩
      rw [decide_eq_true rfl]
      refine iteT ?_
      exact ⟨_, rfl, _, rfl, a, _, rfl, ht, fun z => absurd z.1 (by show ¬ (HT.sIx 3 0 (some 1) = 0); decide), fun _ p np => q p _ (same_upd np) upd_same⟩
    | pow b k =>
      refine ⟨_, rfl, a, _, 0, .str "power", rfl, rfl, ht, rfl, rfl, _, rfl, ?_⟩
      rw [decide_eq_false (show ¬ (V.str "power" = V.str "join") by decide +kernel)]
      refine iteF ?_
      refine ⟨_, rfl, a, _, 0, .str "power", rfl, rfl, ht, rfl, rfl, _, rfl, ?_⟩
      rw [decide_eq_true rfl]
      refine iteT ?_
      refine ⟨_, rfl, a, _, 2, .int (k : Int), rfl, rfl, ht, rfl, _, _, rfl, rfl, _, rfl, ?_⟩
      by_cases hk : 0 < k
      · rw [decide_eq_true (show (k : Int) > 0 by omega)]
        refine iteT ?_
        refine ⟨_, rfl, _, rfl, _, rfl, a, _, rfl, ht, fun z => absurd z.1 (by show ¬ (HT.sIx 3 0 (some 1) = 0); decide), fun _ p np => q p _ (same_upd np) ?_⟩
        rw [upd_same]
        show _ = some (HO.tup (intsV (if 0 < k then [b] else [])))
        rw [if_pos hk]
        rfl
      · rw [decide_eq_false (show ¬ (k : Int) > 0 by omega)]
        refine iteF ?_
        refine ⟨Nat.zero_le _, fun p np => q p _ (same_upd np) ?_⟩
        rw [upd_same]
        show _ = some (HO.tup (intsV (if 0 < k then [b] else [])))
        rw [if_neg hk]
        rfl
end
end K58

set_option Elab.async false
set_option linter.all false
set_option maxRecDepth 100000
set_option maxHeartbeats 3200000
namespace K58
open PySem L2 Tx Tg Tm Sm
/-! ### dicts of places -/
abbrev keyN (N : List Nat) : List Key := N.map fun (n : Nat) => (Sum.inl (n : Int) : Key)
def inseN (N : List Nat) (n : Nat) : List Nat := if n ∈ N then N else N ++ [n]
theorem keys_old (kvs : List (Key × V)) (k : Key) (v : V) (h : k ∈ kvs.map fun kv => kv.1) : (putK kvs k v).map (fun kv => kv.1) = kvs.map fun kv => kv.1 := by
  unfold putK
  have ha : (kvs.any fun kv => decide (kv.1 = k)) = true := by
    obtain ⟨kv, h1, h2⟩ := List.mem_map.mp h
    exact List.any_eq_true.mpr ⟨kv, h1, decide_eq_true h2⟩
  rw [if_pos ha, List.map_map]
  refine List.map_congr_left fun kv _ => ?_
  show (if kv.1 = k then (kv.1, v) else kv).1 = kv.1
  split <;> rfl
theorem keys_new (kvs : List (Key × V)) (k : Key) (v : V) (h : ¬ k ∈ kvs.map fun kv => kv.1) : (putK kvs k v).map (fun kv => kv.1) = kvs.map (fun kv => kv.1) ++ [k] := by
  unfold putK
  have ha : ¬ (kvs.any fun kv => decide (kv.1 = k)) = true := fun z => by
    obtain ⟨kv, h1, h2⟩ := List.any_eq_true.mp z
    exact h (List.mem_map.mpr ⟨kv, h1, of_decide_eq_true h2⟩)
  rw [if_neg ha, List.map_append]
  rfl
theorem keyN_mem {N : List Nat} {n : Nat} : (Sum.inl (n : Int) : Key) ∈ keyN N ↔ n ∈ N := by
  constructor
  · intro h
    obtain ⟨m, h1, h2⟩ := List.mem_map.mp h
    have : (m : Int) = (n : Int) := by injection h2
    have : m = n := by omega
    rw [← this]
    exact h1
  · intro h
    exact List.mem_map.mpr ⟨n, h, rfl⟩
theorem keys_inse {kvs : List (Key × V)} {N : List Nat} (h : kvs.map (fun kv => kv.1) = keyN N) (n : Nat) (v : V) : (putK kvs (Sum.inl (n : Int)) v).map (fun kv => kv.1) = keyN (inseN N n) := by
  unfold inseN
  by_cases hn : n ∈ N
  · rw [keys_old _ _ _ (by rw [h]; exact keyN_mem.mpr hn), h, if_pos hn]
  · rw [keys_new _ _ _ (by rw [h]; exact fun z => hn (keyN_mem.mp z)), h, if_neg hn]
    show _ = List.map _ (_ ++ _)
    rw [List.map_append]
    rfl
theorem val_key {kvs : List (Key × V)} {N : List Nat} (h : kvs.map (fun kv => kv.1) = keyN N) (n : Nat) : (valV kvs (Sum.inl (n : Int))).isSome = decide (n ∈ N) := by
  rw [← valV_any, Bool.eq_iff_iff, decide_eq_true_iff, ← keyN_mem (N := N), ← h, List.any_eq_true, List.mem_map]
  exact ⟨fun ⟨kv, h1, h2⟩ => ⟨kv, h1, of_decide_eq_true h2⟩, fun ⟨kv, h1, h2⟩ => ⟨kv, h1, decide_eq_true h2⟩⟩
theorem inseN_mem {N : List Nat} {n x : Nat} : x ∈ inseN N n ↔ x ∈ N ∨ x = n := by
  unfold inseN
  split
  · rename_i h
    exact ⟨.inl, fun z => z.elim id fun e => by rw [e]; exact h⟩
  · rw [List.mem_append, List.mem_singleton]
theorem inseN_nd {N : List Nat} {n : Nat} (h : N.Nodup) : (inseN N n).Nodup := by
  unfold inseN
  split
  · exact h
  · rename_i hn
    unfold List.Nodup
    rw [List.pairwise_append]
    exact ⟨h, List.pairwise_singleton _ _, fun a ha b hb e => hn (by rw [← List.mem_singleton.mp hb, ← e]; exact ha)⟩
theorem cast_toNat : ∀ (N : List Nat), (N.map fun (n : Nat) => (n : Int)).map Int.toNat = N
  | [] => rfl
  | n :: N => by
    show Int.toNat (n : Int) :: (N.map fun (n : Nat) => (n : Int)).map Int.toNat = _
    rw [Int.toNat_natCast, cast_toNat N]
theorem toNat_cast : ∀ (ys : List Int), (∀ y ∈ ys, 0 ≤ y) → (ys.map Int.toNat).map (fun (n : Nat) => (n : Int)) = ys
  | [], _ => rfl
  | y :: ys, h => by
    show ((y.toNat : Nat) : Int) :: (ys.map Int.toNat).map (fun (n : Nat) => (n : Int)) = _
    rw [toNat_cast ys fun z hz => h z (List.mem_cons_of_mem _ hz), Int.toNat_of_nonneg (h y List.mem_cons_self)]
theorem nat_perm {ys : List Int} {N : List Nat} (h : ys.Perm (N.map fun (n : Nat) => (n : Int))) (hs : ys.Pairwise (· ≤ ·)) (hn : N.Nodup) : ∃ M : List Nat, ys = M.map (fun (n : Nat) => (n : Int)) ∧ M.Pairwise (· < ·) ∧ ∀ x, x ∈ M ↔ x ∈ N := by
  have h0 : ∀ y ∈ ys, 0 ≤ y := fun y hy => by
    obtain ⟨n, _, e⟩ := List.mem_map.mp (h.mem_iff.mp hy)
    omega
  have e := toNat_cast ys h0
  have hp : (ys.map Int.toNat).Perm N := by
    have := h.map Int.toNat
    rw [cast_toNat] at this
    exact this
  refine ⟨ys.map Int.toNat, e.symm, ?_, fun x => hp.mem_iff⟩
  have hnd : (ys.map Int.toNat).Nodup := hp.nodup_iff.mpr hn
  have hle : (ys.map Int.toNat).Pairwise (· ≤ ·) := by
    rw [List.pairwise_map]
    exact hs.imp fun h => by omega
  exact (hle.and hnd).imp fun ⟨h1, h2⟩ => Nat.lt_of_le_of_ne h1 h2
theorem sorted_take : ∀ {M : List Nat} {i x b : Nat}, M.Pairwise (· < ·) → M[i]? = some x → b ∈ M → b < x → b ∈ M.take i
  | [], _, _, _, _, h, _, _ => by cases h
  | m :: M, 0, x, b, hp, h, hb, hlt => by
    cases h
    rcases List.mem_cons.mp hb with rfl | hb
    · exact absurd hlt (Nat.lt_irrefl _)
    · have := (List.pairwise_cons.mp hp).1 b hb
      omega
  | m :: M, i + 1, x, b, hp, h, hb, hlt => by
    rcases List.mem_cons.mp hb with rfl | hb
    · exact List.mem_cons_self
    · exact List.mem_cons_of_mem _ (sorted_take (List.pairwise_cons.mp hp).2 h hb hlt)
section
variable {P : Program} {w : World} {K : PySem.W.Frag} {mg : Str → Option Value} {base : Heap}
/-- what is needed for the last one -/
structure Need (ss : List Stp) (n : Nat) (N : List Nat) : Prop where
  nd : N.Nodup
  last : n - 1 ∈ N
  lt : ∀ x ∈ N, x < n ∧ (L ss x).length ≤ (L ss (n - 1)).length
abbrev nTo : List Str := ["steps", "needed", "at", "below"]
def spTo : Sp := fun vs H Q _ => ∃ (a : Addr) (ss : List Stp) (n : Nat), vs = [.ref a] ∧ RowS H a ss ∧ Good ss ∧ ss.length = n ∧ 1 ≤ n ∧ n ≤ 60 ∧
  ∀ p H' M, Same H H' → H' p = some (.lst (intsV M)) → M.Pairwise (· < ·) → Need ss n M → (∀ x ∈ M, ∀ s, ss[x]? = some s → ∀ b ∈ below s, b ∈ M) → Q (.ref p) H'
theorem scTo : FnScope nTo ["steps"] (defScope sStepsTo) := ⟨rfl, rfl, rfl, by decide +kernel, rfl, by decide +kernel, by decide +kernel⟩
theorem ok_to {f fB : Addr} {fd dB : FuncData} (F : Fun K "steps_to" "steps_to" sStepsTo f fd) (T : Txt K mg) (DB : Df K mg "steps_below" sBelow ["step"] fB dB) : FnOk P w K mg base CX0 2 f fd ["steps"] spTo := by
  have GB := ok_below (P := P) (w := w) (base := base) DB.F T
  refine F.ok scTo (fun vs H Q E h => ?_) (fun cdv A outer s H vs Q E hr h => ?_)
  · obtain ⟨a, ss, n, rfl, _⟩ := h
    rfl
  · obtain ⟨a, ss, n, rfl, ha, hg, hn, n1, n60, q⟩ := h
    have hu := hu_of hr
    refine ⟨_, pss_cons (ps_set (i := 1) scTo.nd rfl (Or.inl rfl) (pe_disp (pps_cons (pe_op op_sub (pe_callB call_len_seq (by rfl) T.len PySem.boot_len (pa_cons (pv 0) pa_nil)) pe_int) pe_bl pps_nil) rfl rfl (by decide) (by decide)))
      (pss_cons (ps_for PassesOwn.never rfl (pi_range3 rfl T.range (pa_cons (pe_op op_sub (pe_callB call_len_seq (by rfl) T.len PySem.boot_len (pa_cons (pv 0) pa_nil)) pe_int) (pa_cons (pe_un un_neg pe_int) (pa_cons (pe_un un_neg pe_int) pa_nil)))) (pg_name (i := 2) scTo.nd rfl (Or.inl rfl))
        (pss_one (ps_if (pt_cmp (pc_din hu (pv 2) (pv 1)))
          (pss_one (ps_for PassesOwn.never rfl (pi_tup (pe_call GB hr (by rfl) DB.m DB.F.kp DB.b .nil pass0 (pa_cons (pe_ix ix_tup (pv 0) (pv 2) (fun _ _ => rfl)) pa_nil))) (pg_name (i := 3) scTo.nd rfl (Or.inl rfl))
            (pss_one (ps_dput hu (pv 1) (pv 3) pe_bl rfl)))) pss_nil)))
      (pss_one (ps_ret (pe_callB (call_sortedDI rfl) (by rfl) T.sorted (by decide +kernel) (pa_cons (pv 1) pa_nil))))), ?_⟩
    obtain ⟨ps, ea, hps⟩ := id ha
    have lps := steps_len hps
    have lm : (ps.map V.ref).length = n := by rw [List.length_map, lps, hn]
    have ec : ((n : Nat) : Int) - 1 = ((n - 1 : Nat) : Int) := by omega
    intro d nd
    have s0 := same_upd (o := .dK []) nd
    refine ⟨_, rfl, a, _, rfl, .inr (SqT.of (s0 _ _ ea)), _, _, rfl, rfl, ?_⟩
    refine ⟨upd_same, [((Sum.inl ((n - 1 : Nat) : Int) : Key), .bl true)], ?_, (by show 1 ≤ 15; decide), ?_⟩
    · rw [lm, ← ec]
      rfl
    have s1 := same_put (o := .dK (mergeK [] [((Sum.inl ((n - 1 : Nat) : Int) : Key), V.bl true)])) s0 nd
    have e1 : (upd (upd H d (.dK [])) d (.dK (mergeK [] [((Sum.inl ((n - 1 : Nat) : Int) : Key), V.bl true)]))) d = some (.dK [((Sum.inl ((n - 1 : Nat) : Int) : Key), V.bl true)]) := upd_same
    generalize upd (upd H d (.dK [])) d (.dK (mergeK [] [((Sum.inl ((n - 1 : Nat) : Int) : Key), V.bl true)])) = H1 at s1 e1 ⊢
    refine ⟨_, rfl, a, _, rfl, .inr (SqT.of (s1 _ _ ea)), _, _, rfl, rfl, _, rfl, _, rfl, _, _, _, n, rfl, ?_, ?_⟩
    · rw [lm, ec]
      have := RgC.neg (i := ((n - 1 : Nat) : Int)) (j := -1) (by omega) (by omega) (by decide) (by decide)
      have e : (((n - 1 : Nat) : Int) - (-1)).toNat = n := by omega
      rw [e] at this
      exact this
    rw [lm, ec]
    refine for_rangeC (lo := ((n - 1 : Nat) : Int)) (c := -1) (n := n) (fun i σ H2 => ∃ (t2 t3 : Option V) (N : List Nat) (kvs : List (Key × V)), σ = [some (.ref a), some (.ref d), t2, t3] ∧ Same H H2 ∧ H2 d = some (.dK kvs) ∧ kvs.map (fun kv => kv.1) = keyN N ∧ Need ss n N ∧
        ∀ x ∈ N, n ≤ x + i → ∀ s, ss[x]? = some s → ∀ b ∈ below s, b ∈ N)
      ⟨none, none, [n - 1], _, rfl, s1, e1, rfl, ⟨List.pairwise_singleton _ _, List.mem_cons_self, fun x hx => ?_⟩, fun x hx h => ?_⟩ ?_ ?_
    · rw [List.mem_singleton.mp hx]
      exact ⟨by omega, Nat.le_refl _⟩
    · rw [List.mem_singleton.mp hx] at h
      omega
    · rintro i σ H2 hi ⟨t2, t3, N, kvs, rfl, s2, e2, hk, hN, hc⟩
      have eat : ((n - 1 : Nat) : Int) + (i : Nat) * (-1) = ((n - 1 - i : Nat) : Int) := by omega
      rw [eat]
      have hlt : n - 1 - i < ps.length := by omega
      refine ⟨_, rfl, _, rfl, d, _, rfl, DGet.k (k := (Sum.inl ((n - 1 - i : Nat) : Int) : Key)) e2, _, rfl, ?_⟩
      rw [val_key hk]
      by_cases hin : n - 1 - i ∈ N
      · rw [decide_eq_true hin]
        refine iteT ?_
        obtain ⟨st, hst, hat⟩ := steps_at (hps.keep (.same s2)) (n - 1 - i) hlt
        refine ⟨_, rfl, _, rfl, a, _, _, _, rfl, rfl, SqT.of (s2 _ _ ea), atI_nat (refs_at hlt), ps[n - 1 - i], st, rfl, hat, fun p H3 s3 e3 => ?_⟩
        refine ⟨p, rfl, ⟨_, SqT.of e3⟩, ?_⟩
        have s23 := s2.trans s3
        have npd : p ≠ d := fun z => by
          rw [z, s3 _ _ e2] at e3
          cases e3
        refine for_tup (xs := intsV (below st)) (fun j σ H4 => ∃ (t3 : Option V) (N' : List Nat) (kvs : List (Key × V)), σ = [some (.ref a), some (.ref d), some (.int ((n - 1 - i : Nat) : Int)), t3] ∧ Same H H4 ∧ H4 p = some (.tup (intsV (below st))) ∧ H4 d = some (.dK kvs) ∧ kvs.map (fun kv => kv.1) = keyN N' ∧ Need ss n N' ∧
            (∀ x ∈ N, x ∈ N') ∧ (∀ x ∈ N', x ∈ N ∨ x < n - 1 - i) ∧ ∀ b ∈ (below st).take j, b ∈ N')
          ⟨t3, N, kvs, rfl, s23, e3, s3 _ _ e2, hk, hN, fun _ h => h, fun _ h => .inl h, fun b hb => nomatch hb⟩ (fun j σ H4 _ z => by obtain ⟨_, _, _, _, _, h, _⟩ := z; exact SqT.of h) ?_ ?_
        · rintro j y σ H4 hy ⟨t3, N', kvs', rfl, s4, e4p, e4, hk', hN', sub, back, done⟩
          have hj := (List.getElem?_eq_some_iff.mp hy).1
          have hj2 : j < (below st).length := by rw [List.length_map] at hj; exact hj
          rw [intsV_at (List.getElem?_eq_getElem hj2)] at hy
          cases hy
          have mb : (below st)[j] ∈ below st := List.getElem_mem hj2
          have blt := below_lt hg hst _ mb
          have ble := below_le hg hst _ mb
          have hx := hN.lt _ hin
          have hl60 : kvs'.length ≤ 60 := by
            have h1 := congrArg List.length hk'
            rw [List.length_map, List.length_map] at h1
            have h2 := Pm.small_len hN'.nd fun x hx => (hN'.lt x hx).1
            omega
          refine ⟨_, rfl, _, rfl, d, _, rfl, DPut.k (k := (Sum.inl ((below st)[j] : Int) : Key)) e4 (Nat.lt_of_le_of_lt hl60 (by decide)), ?_⟩
          refine ⟨_, inseN N' (below st)[j], _, rfl, same_put s4 nd, by rw [upd_ne npd]; exact e4p, upd_same, keys_inse hk' _ _, ⟨inseN_nd hN'.nd, inseN_mem.mpr (.inl hN'.last), fun x hx => ?_⟩, fun x hx => inseN_mem.mpr (.inl (sub x hx)), fun x hx => ?_, fun b hb => ?_⟩
          · rcases inseN_mem.mp hx with hx | hx
            · exact hN'.lt x hx
            · rw [hx]
              exact ⟨by omega, Nat.le_trans ble (hN.lt _ hin).2⟩
          · rcases inseN_mem.mp hx with hx | hx
            · exact back x hx
            · exact .inr (by rw [hx]; exact blt)
          · rw [List.take_add_one, List.getElem?_eq_getElem hj2] at hb
            rcases List.mem_append.mp hb with hb | hb
            · exact inseN_mem.mpr (.inl (done b hb))
            · have : b = (below st)[j] := by simpa using hb
              exact inseN_mem.mpr (.inr this)
        · rintro σ H4 ⟨t3, N', kvs', rfl, s4, e4p, e4, hk', hN', sub, back, done⟩
          rw [List.length_map, List.take_of_length_le (Nat.le_refl _)] at done
          refine ⟨_, _, N', kvs', rfl, s4, e4, hk', hN', fun x hx hxi s hs b hb => ?_⟩
          rcases back x hx with h | h
          · by_cases hxa : x = n - 1 - i
            · rw [hxa, hst] at hs
              cases hs
              exact done b hb
            · exact sub _ (hc x h (by omega) s hs b hb)
          · omega
      · rw [decide_eq_false hin]
        refine iteF ⟨_, _, N, kvs, rfl, s2, e2, hk, hN, fun x hx hxi s hs b hb => ?_⟩
        have hxa : x ≠ n - 1 - i := fun z => hin (by rw [← z]; exact hx)
        exact hc x hx (by omega) s hs b hb
    · rintro σ H2 ⟨t2, t3, N, kvs, rfl, s2, e2, hk, hN, hc⟩
      have h2 := Pm.small_len hN.nd fun x hx => (hN.lt x hx).1
      refine ⟨_, rfl, d, kvs, N.map (fun (n : Nat) => (n : Int)), rfl, .inl e2, by rw [hk, List.map_map]; rfl, by rw [List.length_map]; omega, fun ys p hp hs np => ?_⟩
      obtain ⟨M, rfl, hM, mem⟩ := nat_perm hp hs hN.nd
      refine q p _ M (s2.trans (same_upd np)) (by rw [upd_same, List.map_map]; rfl) hM ⟨hM.imp fun h => Nat.ne_of_lt h, (mem _).mpr hN.last, fun x hx => hN.lt x ((mem x).mp hx)⟩ fun x hx s hs b hb => (mem b).mpr (hc x ((mem x).mp hx) (by omega) s hs b hb)
end
end K58

set_option Elab.async false
set_option linter.all false
set_option maxRecDepth 100000
set_option maxHeartbeats 3200000
/-! C() of a class without an __init__ of its own -/
namespace Ow
open PySem PySem.Spec PyProof.Rows L2
structure MkO (K : PySem.W.Frag) (C : Addr) : Prop where
  makes : PySem.W.makesIn K C = true
  init : PySem.W.findIn K (.ref C) "__init__" = some (some (.builtin "object.__init__"))
  top : PySem.W.mroIn K C (.type "object") = some true
  kp : PySem.W.keepIn K (.ref C) = true
section
variable {X : Cx} {C : Addr} {x : Str} {p pos : Pos}
def tMakeO (C : Addr) : TE := fun _ H Q => ∀ x dx, H x = none → H dx = none → dx ≠ x → Q (.ref x) (upd (upd H dx (.own x)) x (.ins C dx []))
theorem run_makeO {pins : List (Addr × Obj)} {σ : L2.St} {H : Hp} {s : Shared} {Q : VK} (M : MkO X.K C) (I : Inv X pins σ H s) (h : tMakeO C σ H Q) : wpAny (model X.prog X.w) X.A (call (.ref C) []) (EP X pins σ Q) X.xe s := by
  have hq := h (s.heap.objs.size + 1) s.heap.objs.size (I.hok.fresh (Nat.le_succ _)) (I.hok.fresh (Nat.le_refl _)) (Nat.ne_of_lt (Nat.lt_succ_self _))
  have I2 := Inv.made (C := C) I
  have e2 : ((s.heap.push PySem.W.emptyDict).push (PySem.W.instObj C s.heap.objs.size)).get? (s.heap.objs.size + 1) = some (PySem.W.instObj C s.heap.objs.size) := by
    have := Heap.get?_push_size (s.heap.push PySem.W.emptyDict) (o := PySem.W.instObj C s.heap.objs.size) rfl
    rw [Heap.size_push] at this
    exact this
  refine wpAny_call (make_map0 I.kIn M.makes M.init (fun self => PySem.W.Looks.of_pure (PySem.W.oi_bind self)) ?_)
  have t1 : PySem.W.Looks (model X.prog X.w) ((s.heap.push PySem.W.emptyDict).push (PySem.W.instObj C s.heap.objs.size)) (typeOf (.ref (s.heap.objs.size + 1))) (.ref C) := NwA.type_at e2 rfl
  have t2 : PySem.W.Looks (model X.prog X.w) ((s.heap.push PySem.W.emptyDict).push (PySem.W.instObj C s.heap.objs.size)) (isInstance (.ref (s.heap.objs.size + 1)) (.type "object")) true := t1.andThen (PySem.W.looks_mroIn I2.kIn M.top)
  refine codeAny_call_builtin PySem.W.oi_plain PySem.W.entry_oi (@PySem.W.check_slot (model X.prog X.w) _ _ _ "object.__init__" "object" "__init__" (.ref (s.heap.objs.size + 1)) [] [] _ PySem.W.oi_kind PySem.W.oi_split t2 (NwA.oi_args_any _ [] []) ?_)
  rw [PySem.W.oi_run]
  exact wpAny_pure ⟨rfl, V.ref (s.heap.objs.size + 1), _, I2, rfl, hq⟩
theorem pe_makeO (M : MkO X.K C) (hg : Gl X x) (hm : X.mg x = some (.ref C)) (hdb : (x == ("__debug__" : Str)) = false := by decide) : PE X (.Call (.Name x p) [] [] pos) (tMakeO C) := by
  refine ⟨fun pins s σ H Q I h => ?_⟩
  refine wpAny_Call_Name_kw (ld_glob I hg hm ?_ hdb)
  exact PySem.W.callWith_K0 I.kIn M.kp (run_makeO M I h)
end
end Ow

set_option Elab.async false
set_option linter.all false
set_option maxRecDepth 100000
set_option maxHeartbeats 3200000
namespace K58
open PySem L2 Tx Tg Tm Sm
/-! ### texts -/
def tx (l : List Nat) : Str := ⟨l.toArray⟩
theorem cds_tx (l : List Nat) : cds (tx l) = l := rfl
theorem tx_cds (z : Str) : tx (cds z) = z := cds_ext rfl
theorem cds_app (a b : Str) : cds (a ++ b) = cds a ++ cds b := by
  show (a.cps ++ b.cps).toList = _
  rw [Array.toList_append]
theorem tx_app (l m : List Nat) : tx l ++ tx m = tx (l ++ m) := cds_ext (by rw [cds_app]; rfl)
theorem tx_len (l : List Nat) : (tx l).length = l.length := by
  rw [← cds_len]
  rfl
theorem mul_rep (z : Str) {n : Nat} (h : 1 ≤ n) : Txt.mul z (n : Int) = tx (rep n (cds z)) := by
  refine cds_ext ?_
  rw [cds_tx]
  unfold Txt.mul
  rw [if_neg (by omega)]
  split
  · rename_i q
    rcases Bool.or_eq_true _ _ ▸ q with q | q
    · have hn : n = 1 := by
        have : ((n : Nat) : Int) = 1 := by simpa using q
        omega
      subst hn
      rw [rep_succ, rep_zero, List.append_nil]
    · have h0 : z.length = 0 := by simpa using q
      have hz : cds z = [] := List.eq_nil_of_length_eq_zero (by rw [cds_len]; exact h0)
      rw [hz, rep_nil]
  · have all : ∀ (k : Nat) (acc : Array Nat), ((List.replicate k z.cps).foldl (· ++ ·) acc).toList = acc.toList ++ rep k (cds z) := by
      intro k
      induction k with
      | zero => intro acc; simp [rep]
      | succ k ih =>
        intro acc
        rw [List.replicate_succ, List.foldl_cons, ih, rep_succ, Array.toList_append, List.append_assoc]
    have := all n #[]
    rw [Int.toNat_natCast]
    exact this.trans (List.nil_append _)
theorem mulU_ok {z : Str} {n : Nat} (h1 : 1 ≤ n) (h2 : n ≤ 10000) (h3 : z.length * n ≤ 10000) : MulOk z (n : Int) := by
  refine ⟨?_, fun _ _ => ?_, fun _ _ => ?_⟩
  · rw [decide_eq_false (by omega), decide_eq_false (by omega)]
    rfl
  · have hz : z.length ≤ 10000 := Nat.le_trans (Nat.le_mul_of_pos_right _ h1) h3
    have : (10000 : Int) ≤ (2 ^ 63 - 1) / (n : Int) := Int.le_ediv_of_mul_le (by omega) (by omega)
    omega
  · have e : PySem.Builtin.Str.tooLong (z.length * ((n : Nat) : Int).toNat) = decide (z.length * ((n : Nat) : Int).toNat > sizeLine) := rfl
    rw [e]
    refine decide_eq_false ?_
    rw [sizeLine_eq, Int.toNat_natCast]
    omega
theorem op_mulU {X : Cx} : OpR X (binaryOp .Mult) (fun x y H Q => ∃ (z : Str) (n : Nat), x = .str z ∧ y = .int (n : Int) ∧ 1 ≤ n ∧ n ≤ 10000 ∧ z.length * n ≤ 10000 ∧ Q (.str (tx (rep n (cds z)))) H) := by
  intro pins s σ H x y v u Q I rx ry h
  obtain ⟨z, n, rfl, rfl, h1, h2, h3, q⟩ := h
  obtain ⟨t, rfl⟩ := rx
  obtain ⟨t', rfl⟩ := ry
  refine SB.mul (mulU_ok h1 h2 h3) fun t2 k => ⟨.str (Txt.mul z n), H, I.tok _, ⟨t2, rfl⟩, ?_⟩
  rw [mul_rep z h1]
  exact q
/-! ### the tool that writes texts -/
abbrev sWritten : Stmt := inClass sTool 0
abbrev sJoined : Stmt := inClass sTool 1
abbrev sRepeated : Stmt := inClass sTool 2
section
variable {P : Program} {w : World} {K : PySem.W.Frag} {mg : Str → Option Value} {base : Heap}
def spWritten : Sp := fun vs H Q _ => ∃ (p : Addr) (z : Str), vs = [.ref p, .str z] ∧ Q (.str z) H
theorem scWritten : FnScope ["self", "text"] ["self", "text"] (defScope sWritten) := ⟨rfl, rfl, rfl, by decide +kernel, rfl, by decide +kernel, by decide +kernel⟩
theorem ok_written {f : Addr} {fd : FuncData} (F : Fun K "written" "TextTool.written" sWritten f fd) : FnOk P w K mg base CX0 1 f fd ["self", "text"] spWritten := by
  refine F.ok scWritten (fun vs H Q E h => ?_) (fun cdv A outer s H vs Q E hr h => ?_)
  · obtain ⟨p, z, rfl, _⟩ := h
    rfl
  · obtain ⟨p, z, rfl, q⟩ := h
    exact ⟨_, pss_one (ps_ret (pv 1)), _, rfl, q⟩
def spJoined : Sp := fun vs H Q _ => ∃ (p : Addr) (u v : Str), vs = [.ref p, .str u, .str v] ∧ u.length + v.length ≤ sizeLine ∧ Q (.str (u ++ v)) H
theorem scJoined : FnScope ["self", "one", "other"] ["self", "one", "other"] (defScope sJoined) := ⟨rfl, rfl, rfl, by decide +kernel, rfl, by decide +kernel, by decide +kernel⟩
theorem ok_joined {f : Addr} {fd : FuncData} (F : Fun K "joined" "TextTool.joined" sJoined f fd) : FnOk P w K mg base CX0 1 f fd ["self", "one", "other"] spJoined := by
  refine F.ok scJoined (fun vs H Q E h => ?_) (fun cdv A outer s H vs Q E hr h => ?_)
  · obtain ⟨p, u, v, rfl, _⟩ := h
    rfl
  · obtain ⟨p, u, v, rfl, hl, q⟩ := h
    exact ⟨_, pss_one (ps_ret (pe_op op_add_str (pv 1) (pv 2))), _, rfl, _, rfl, u, v, rfl, rfl, hl, q⟩
def spRepeated : Sp := fun vs H Q _ => ∃ (p : Addr) (u : Str) (n : Nat), vs = [.ref p, .str u, .int (n : Int)] ∧ 1 ≤ n ∧ (cds u ≠ [] → n ≤ 10000 ∧ u.length * n ≤ 10000) ∧ Q (.str (tx (rep n (cds u)))) H
theorem scRepeated : FnScope ["self", "one", "number"] ["self", "one", "number"] (defScope sRepeated) := ⟨rfl, rfl, rfl, by decide +kernel, rfl, by decide +kernel, by decide +kernel⟩
theorem ok_repeated {f : Addr} {fd : FuncData} (F : Fun K "repeated" "TextTool.repeated" sRepeated f fd) : FnOk P w K mg base CX0 1 f fd ["self", "one", "number"] spRepeated := by
  refine F.ok scRepeated (fun vs H Q E h => ?_) (fun cdv A outer s H vs Q E hr h => ?_)
  · obtain ⟨p, u, n, rfl, _⟩ := h
    rfl
  · obtain ⟨p, u, n, rfl, h1, h2, q⟩ := h
    refine ⟨_, pss_one (ps_ret (pe_ifExp (pt_cmpR op_eq (pv 1) pe_str (nomark _)) pe_str (pe_op op_mulU (pv 1) (pv 2)))), ?_⟩
    refine ⟨_, rfl, rfl, _, rfl, ?_⟩
    by_cases hu : cds u = []
    · have e : u = "" := cds_ext hu
      rw [decide_eq_true (congrArg V.str e)]
      refine iteT ?_
      rw [hu, rep_nil] at q
      exact q
    · rw [decide_eq_false (fun z => hu (by have : u = "" := by injection z
                                           rw [this]; rfl))]
      exact iteF ⟨_, rfl, _, rfl, u, n, rfl, rfl, h1, (h2 hu).1, (h2 hu).2, q⟩
/-- the tool's class -/
structure ToolT (K : PySem.W.Frag) (mg : Str → Option Value) (C f1 f2 f3 : Addr) (d1 d2 d3 : FuncData) : Prop where
  cl : Cls K C
  mo : Ow.MkO K C
  mgC : mg "TextTool" = some (.ref C)
  F1 : Fun K "written" "TextTool.written" sWritten f1 d1
  b1 : Binds K d1 ["self", "text"] []
  m1 : Meth K C "written" f1
  F2 : Fun K "joined" "TextTool.joined" sJoined f2 d2
  b2 : Binds K d2 ["self", "one", "other"] []
  m2 : Meth K C "joined" f2
  F3 : Fun K "repeated" "TextTool.repeated" sRepeated f3 d3
  b3 : Binds K d3 ["self", "one", "number"] []
  m3 : Meth K C "repeated" f3
abbrev nMade : List Str := ["steps", "tool", "made", "at", "step"]
def spMadeBy (C : Addr) : Sp := fun vs H Q _ => ∃ (a tl dx : Addr) (ss : List Stp) (n : Nat), vs = [.ref a, .ref tl] ∧ RowS H a ss ∧ Good ss ∧ ss.length = n ∧ 1 ≤ n ∧ n ≤ 60 ∧ H tl = some (.ins C dx []) ∧ (L ss (n - 1)).length ≤ 4000 ∧ ∀ H', Same H H' → Q (.str (tx (L ss (n - 1)))) H'
theorem scMadeBy : FnScope nMade ["steps", "tool"] (defScope sMadeBy) := ⟨rfl, rfl, rfl, by decide +kernel, rfl, by decide +kernel, by decide +kernel⟩
theorem ok_madeby {f fT fB C f1 f2 f3 : Addr} {fd dT dB d1 d2 d3 : FuncData} (F : Fun K "made_by" "made_by" sMadeBy f fd) (T : Txt K mg) (W : ToolT K mg C f1 f2 f3 d1 d2 d3) (DT : Df K mg "steps_to" sStepsTo ["steps"] fT dT) (DB : Df K mg "steps_below" sBelow ["step"] fB dB) :
    FnOk P w K mg base CX0 3 f fd ["steps", "tool"] (spMadeBy C) := by
  have GT := ok_to (P := P) (w := w) (base := base) DT.F T DB
  have G1 := ok_written (P := P) (w := w) (base := base) (mg := mg) W.F1
  have G2 := ok_joined (P := P) (w := w) (base := base) (mg := mg) W.F2
  have G3 := ok_repeated (P := P) (w := w) (base := base) (mg := mg) W.F3
  refine F.ok scMadeBy (fun vs H Q E h => ?_) (fun cdv A outer s H vs Q E hr h => ?_)
  · obtain ⟨a, tl, dx, ss, n, rfl, _⟩ := h
    rfl
  · obtain ⟨a, tl, dx, ss, n, rfl, ha, hg, hn, n1, n60, htl, hlen, q⟩ := h
    have hu := hu_of hr
    have r1 : Room 1 _ := hr.mono (by decide)
    refine ⟨_, pss_cons (ps_set (i := 2) scMadeBy.nd rfl (Or.inl rfl) pe_dnewK)
      (pss_cons (ps_for PassesOwn.never rfl (pi_list (pe_call GT hr (by rfl) DT.m DT.F.kp DT.b .nil pass0 (pa_cons (pv 0) pa_nil))) (pg_name (i := 3) scMadeBy.nd rfl (Or.inl rfl))
        (pss_cons (ps_set (i := 4) scMadeBy.nd rfl (Or.inl rfl) (pe_ix ix_tup (pv 0) (pv 3) (fun _ _ => rfl)))
        (pss_one (ps_if (pt_cmpR op_eq (pe_ix ix_tup (pv 4) pe_int (fun _ _ => rfl)) pe_str (nomark _))
          (pss_one (ps_dput hu (pv 2) (pv 3) (pe_meth (pv 1) W.cl W.m1 G1 r1 W.b1 .nil pass0 (pa_cons (pe_ix ix_tup (pv 4) pe_int (fun _ _ => rfl)) pa_nil)) rfl))
          (pss_one (ps_if (pt_cmpR op_eq (pe_ix ix_tup (pv 4) pe_int (fun _ _ => rfl)) pe_str (nomark _))
            (pss_one (ps_dput hu (pv 2) (pv 3) (pe_meth (pv 1) W.cl W.m2 G2 r1 W.b2 .nil pass0 (pa_cons (pe_dget hu (pv 2) (pe_ix ix_tup (pv 4) pe_int (fun _ _ => rfl)) (fun _ _ => rfl)) (pa_cons (pe_dget hu (pv 2) (pe_ix ix_tup (pv 4) pe_int (fun _ _ => rfl)) (fun _ _ => rfl)) pa_nil))) rfl))
            (pss_one (ps_dput hu (pv 2) (pv 3) (pe_ifExp (pt_cmpR op_gt (pe_ix ix_tup (pv 4) pe_int (fun _ _ => rfl)) pe_int (nomark _))
              (pe_meth (pv 1) W.cl W.m3 G3 r1 W.b3 .nil pass0 (pa_cons (pe_dget hu (pv 2) (pe_ix ix_tup (pv 4) pe_int (fun _ _ => rfl)) (fun _ _ => rfl)) (pa_cons (pe_ix ix_tup (pv 4) pe_int (fun _ _ => rfl)) pa_nil)))
              (pe_meth (pv 1) W.cl W.m1 G1 r1 W.b1 .nil pass0 (pa_cons pe_str pa_nil))) rfl))))))))
      (pss_one (ps_ret (pe_dget hu (pv 2) (pe_op op_sub (pe_callB call_len_seq (by rfl) T.len PySem.boot_len (pa_cons (pv 0) pa_nil)) pe_int) (fun _ _ => rfl))))), ?_⟩
    obtain ⟨ps, ea, hps⟩ := id ha
    have lps := steps_len hps
    intro d nd
    have s0 := same_upd (o := .dK []) nd
    have e0 : (upd H d (.dK [])) d = some (.dK []) := upd_same
    generalize upd H d (.dK []) = H0 at s0 e0 ⊢
    refine ⟨_, rfl, a, ss, n, rfl, ha.keep (.same s0), hg, hn, n1, n60, fun p H1 M s1 e1 hM hN hc => ?_⟩
    refine ⟨p, rfl, ⟨_, SqL.of e1⟩, ?_⟩
    have s01 := s0.trans s1
    have npd : p ≠ d := fun z => by
      rw [z, s1 _ _ e0] at e1
      cases e1
    refine for_list (xs := intsV M) (fun i σ H2 => ∃ (t3 t4 : Option V) (kvs : List (Key × V)), σ = [some (.ref a), some (.ref tl), some (.ref d), t3, t4] ∧ Same H H2 ∧ H2 p = some (.lst (intsV M)) ∧ H2 d = some (.dK kvs) ∧ kvs.length ≤ i ∧ ∀ x ∈ M.take i, valV kvs (Sum.inl (x : Int)) = some (.str (tx (L ss x))))
      ⟨none, none, [], rfl, s01, e1, s1 _ _ e0, Nat.le_refl _, fun x hx => nomatch hx⟩ (fun i σ H2 _ z => by obtain ⟨_, _, _, _, _, h, _⟩ := z; exact SqL.of h) ?_ ?_
    · rintro i y σ H2 hy ⟨t3, t4, kvs, rfl, s2, e2p, e2, lk, hv⟩
      have hi := (List.getElem?_eq_some_iff.mp hy).1
      have hi2 : i < M.length := by rw [List.length_map] at hi; exact hi
      have hMi := List.getElem?_eq_getElem hi2
      rw [intsV_at hMi] at hy
      cases hy
      have mx : M[i] ∈ M := List.getElem_mem hi2
      obtain ⟨hxn, hxl⟩ := hN.lt _ mx
      have hlt : M[i] < ps.length := by omega
      obtain ⟨st, hst, hat⟩ := steps_at (hps.keep (.same s2)) M[i] hlt
      have ht : SqT K H2 ps[M[i]] (svals st) := SqT.of hat
      have low : ∀ b ∈ below st, valV kvs (Sum.inl (b : Int)) = some (.str (tx (L ss b))) := fun b hb => hv b (sorted_take hM hMi (hc _ mx st hst b hb) (below_lt hg hst b hb))
      have l60 : M.length ≤ n := Pm.small_len hN.nd fun x hx => (hN.lt x hx).1
      have lkk : kvs.length < sizeLine := Nat.lt_of_le_of_lt (show _ ≤ 60 by omega) (by decide)
      have eL := L_at hg hst
      have lx : (L ss M[i]).length ≤ 4000 := by omega
      have fin : ∀ z : Str, z = tx (L ss M[i]) → ∃ H3, DPut H2 d (.int (M[i] : Int)) (.str z) H3 ∧ ∃ (t3 t4 : Option V) (kvs : List (Key × V)), [some (V.ref a), some (V.ref tl), some (V.ref d), some (V.int (M[i] : Int)), some (V.ref ps[M[i]])] = [some (.ref a), some (.ref tl), some (.ref d), t3, t4] ∧ Same H H3 ∧ H3 p = some (.lst (intsV M)) ∧ H3 d = some (.dK kvs) ∧ kvs.length ≤ i + 1 ∧ ∀ x ∈ M.take (i + 1), valV kvs (Sum.inl (x : Int)) = some (.str (tx (L ss x))) := by
        intro z ez
        refine ⟨_, DPut.k (k := (Sum.inl (M[i] : Int) : Key)) e2 lkk, _, _, putK kvs (Sum.inl (M[i] : Int)) (.str z), rfl, same_put s2 nd, by rw [upd_ne npd]; exact e2p, upd_same, ?_, fun x hx => ?_⟩
        · have := length_putK kvs (Sum.inl (M[i] : Int) : Key) (.str z)
          omega
        · rw [valV_put]
          by_cases hxi : x = M[i]
          · rw [if_pos (by rw [hxi]), ez, hxi]
          · rw [if_neg fun e => hxi (by injection e with e; omega)]
            rw [List.take_add_one, hMi] at hx
            rcases List.mem_append.mp hx with hx | hx
            · exact hv x hx
            · exact absurd (by simpa using hx) hxi
      refine ⟨_, rfl, _, rfl, a, _, _, _, rfl, rfl, SqT.of (s2 _ _ ea), atI_nat (refs_at hlt), ?_⟩
      cases st with
      | txt z =>
        refine ⟨_, rfl, ps[M[i]], _, 0, .str "text", rfl, rfl, ht, rfl, rfl, _, rfl, ?_⟩
        rw [decide_eq_true rfl]
        refine iteT ?_
        obtain ⟨H3, g, r⟩ := fin z (by rw [eL]; exact (tx_cds z).symm)
        exact ⟨_, rfl, tl, dx, [], rfl, s2 _ _ htl, rfl, _, rfl, ps[M[i]], _, 1, .str z, rfl, rfl, ht, rfl, tl, z, rfl, _, rfl, _, rfl, d, H3, rfl, g, r⟩
      | join b c =>
        have hb := low b (by simp [below])
        have hcc := low c (by simp [below])
        have gb := DGet.k (k := (Sum.inl (b : Int) : Key)) e2
        rw [hb] at gb
        have gc := DGet.k (k := (Sum.inl (c : Int) : Key)) e2
        rw [hcc] at gc
        have elen : (L ss b).length + (L ss c).length ≤ 4000 := by
          rw [eL] at lx
          have : (L ss b ++ L ss c).length ≤ 4000 := lx
          rw [List.length_append] at this
          exact this
        refine ⟨_, rfl, ps[M[i]], _, 0, .str "join", rfl, rfl, ht, rfl, rfl, _, rfl, ?_⟩
        rw [decide_eq_false (show ¬ (V.str "join" = V.str "text") by decide +kernel)]
        refine iteF ?_
        refine ⟨_, rfl, ps[M[i]], _, 0, .str "join", rfl, rfl, ht, rfl, rfl, _, rfl, ?_⟩
        rw [decide_eq_true rfl]
        refine iteT ?_
        obtain ⟨H3, g, r⟩ := fin (tx (L ss b) ++ tx (L ss c)) (by rw [eL, tx_app]; rfl)
        refine ⟨_, rfl, tl, dx, [], rfl, s2 _ _ htl, rfl, _, rfl, _, rfl, ps[M[i]], _, 1, .int (b : Int), rfl, rfl, ht, rfl, d, _, rfl, gb, _, rfl, _, rfl, ps[M[i]], _, 2, .int (c : Int), rfl, rfl, ht, rfl, d, _, rfl, gc, tl, tx (L ss b), tx (L ss c), rfl, ?_, _, rfl, _, rfl, d, H3, rfl, g, r⟩
        rw [tx_len, tx_len]
        exact Nat.le_trans elen (by decide)
      | pow b k =>
        refine ⟨_, rfl, ps[M[i]], _, 0, .str "power", rfl, rfl, ht, rfl, rfl, _, rfl, ?_⟩
        rw [decide_eq_false (show ¬ (V.str "power" = V.str "text") by decide +kernel)]
        refine iteF ?_
        refine ⟨_, rfl, ps[M[i]], _, 0, .str "power", rfl, rfl, ht, rfl, rfl, _, rfl, ?_⟩
        rw [decide_eq_false (show ¬ (V.str "power" = V.str "join") by decide +kernel)]
        refine iteF ?_
        refine ⟨_, rfl, ps[M[i]], _, 2, .int (k : Int), rfl, rfl, ht, rfl, _, _, rfl, rfl, _, rfl, ?_⟩
        by_cases hk : 0 < k
        · rw [decide_eq_true (show (k : Int) > 0 by omega)]
          refine iteT ?_
          have hb := low b (by show b ∈ (if 0 < k then [b] else []); rw [if_pos hk]; exact List.mem_cons_self)
          have gb := DGet.k (k := (Sum.inl (b : Int) : Key)) e2
          rw [hb] at gb
          obtain ⟨H3, g, r⟩ := fin (tx (rep k (cds (tx (L ss b))))) (by rw [eL]; rfl)
          refine ⟨_, rfl, tl, dx, [], rfl, s2 _ _ htl, rfl, _, rfl, _, rfl, ps[M[i]], _, 1, .int (b : Int), rfl, rfl, ht, rfl, d, _, rfl, gb, _, rfl, ps[M[i]], _, 2, .int (k : Int), rfl, rfl, ht, rfl, tl, tx (L ss b), k, rfl, hk, fun hne => ?_, _, rfl, _, rfl, d, H3, rfl, g, r⟩
          have e1 : k * (L ss b).length ≤ 4000 := by
            rw [eL] at lx
            have : (rep k (L ss b)).length ≤ 4000 := lx
            rw [rep_len] at this
            exact this
          have e2 : 0 < (L ss b).length := List.length_pos_iff.mpr hne
          have e3 : k ≤ k * (L ss b).length := Nat.le_mul_of_pos_right _ e2
          rw [tx_len, Nat.mul_comm]
          omega
        · rw [decide_eq_false (show ¬ (k : Int) > 0 by omega)]
          refine iteF ?_
          have k0 : k = 0 := by omega
          obtain ⟨H3, g, r⟩ := fin "" (by rw [eL, k0]; rfl)
          exact ⟨_, rfl, tl, dx, [], rfl, s2 _ _ htl, rfl, tl, "", rfl, _, rfl, _, rfl, d, H3, rfl, g, r⟩
    · rintro σ H2 ⟨t3, t4, kvs, rfl, s2, e2p, e2, lk, hv⟩
      rw [List.length_map, List.take_of_length_le (Nat.le_refl _)] at hv
      have g := DGet.k (k := (Sum.inl ((n - 1 : Nat) : Int) : Key)) e2
      rw [hv _ hN.last] at g
      have lm : (ps.map V.ref).length = n := by rw [List.length_map, lps, hn]
      refine ⟨_, rfl, _, rfl, a, _, rfl, .inr (SqT.of (s2 _ _ ea)), _, _, rfl, rfl, d, _, rfl, ?_, q H2 s2⟩
      have ec : V.int (((ps.map V.ref).length : Nat) - (1 : Int)) = V.int ((n - 1 : Nat) : Int) := congrArg V.int (by rw [lm]; omega)
      show DGet H2 d (V.int (((ps.map V.ref).length : Nat) - (1 : Int))) _
      rw [ec]
      exact g
end
end K58

set_option Elab.async false
set_option linter.all false
set_option maxRecDepth 100000
set_option maxHeartbeats 3200000
namespace K58
open PySem L2 Tx Tg Tm Sm
section
variable {P : Program} {w : World} {K : PySem.W.Frag} {mg : Str → Option Value} {base : Heap}
abbrev nLet : List Str := ["steps", "sizes", "index", "at", "left", "step"]
def spLetter : Sp := fun vs H Q _ => ∃ (sg : Str) (a b : Addr) (ss : List Stp) (n x c : Nat), vs = [.ref a, .ref b, .int (x : Int)] ∧ RowS H a ss ∧ H b = some (.tup (intsV (sizes ss))) ∧ okStps sg ss ∧ ss.length = n ∧ 1 ≤ n ∧ (L ss (n - 1))[x]? = some c ∧ Q (.str (one c)) H
theorem scLetter : FnScope nLet ["steps", "sizes", "index"] (defScope sLetterAt) := ⟨rfl, rfl, rfl, by decide +kernel, rfl, by decide +kernel, by decide +kernel⟩
theorem sizes_at {ss : List Stp} {i : Nat} (h : i < ss.length) : (intsV (sizes ss))[i]? = some (.int (Z ss i : Int)) := intsV_at (sizes_get h)
theorem ok_letter {f : Addr} {fd : FuncData} (F : Fun K "letter_at" "letter_at" sLetterAt f fd) (T : Txt K mg) : FnOk P w K mg base CX0 1 f fd ["steps", "sizes", "index"] spLetter := by
  refine F.ok scLetter (fun vs H Q E h => ?_) (fun cdv A outer s H vs Q E hr h => ?_)
  · obtain ⟨sg, a, b, ss, n, x, c, rfl, _⟩ := h
    rfl
  · obtain ⟨sg, a, b, ss, n, x, c, rfl, ha, hb, ok, hn, n1, hx, q⟩ := h
    refine ⟨_, pss_cons (ps_par (i := 3) (j := 4) (by rfl) scLetter.nd rfl rfl (by decide) rfl rfl (pa_cons (pe_op op_sub (pe_callB call_len_seq (by rfl) T.len PySem.boot_len (pa_cons (pv 0) pa_nil)) pe_int) (pa_cons (pv 2) pa_nil)) (by rfl))
      (pss_cons (ps_while PassesOwn.never (pt_cmpR op_ne (pe_ix ix_tup (pe_ix ix_tup (pv 0) (pv 3) (fun _ _ => rfl)) pe_int (fun _ _ => rfl)) pe_str (nomark _))
        (pss_cons (ps_set (i := 5) scLetter.nd rfl (Or.inl rfl) (pe_ix ix_tup (pv 0) (pv 3) (fun _ _ => rfl)))
        (pss_one (ps_if (pt_cmpR op_eq (pe_ix ix_tup (pv 5) pe_int (fun _ _ => rfl)) pe_str (nomark _))
          (pss_one (ps_par (i := 3) (j := 4) (by rfl) scLetter.nd rfl rfl (by decide) rfl rfl (pa_cons (pe_ix ix_tup (pv 5) pe_int (fun _ _ => rfl)) (pa_cons (pe_op op_modN (pv 4) (pe_ix ix_tup (pv 1) (pe_ix ix_tup (pv 5) pe_int (fun _ _ => rfl)) (fun _ _ => rfl))) pa_nil)) (by rfl)))
          (pss_one (ps_if (pt_cmpR op_lt (pv 4) (pe_ix ix_tup (pv 1) (pe_ix ix_tup (pv 5) pe_int (fun _ _ => rfl)) (fun _ _ => rfl)) (nomark _))
            (pss_one (ps_set (i := 3) scLetter.nd rfl (Or.inl rfl) (pe_ix ix_tup (pv 5) pe_int (fun _ _ => rfl))))
            (pss_one (ps_par (i := 3) (j := 4) (by rfl) scLetter.nd rfl rfl (by decide) rfl rfl (pa_cons (pe_ix ix_tup (pv 5) pe_int (fun _ _ => rfl)) (pa_cons (pe_op op_sub (pv 4) (pe_ix ix_tup (pv 1) (pe_ix ix_tup (pv 5) pe_int (fun _ _ => rfl)) (fun _ _ => rfl))) pa_nil)) (by rfl)))))))))
      (pss_one (ps_ret (pe_ix ix_str (pe_ix ix_tup (pe_ix ix_tup (pv 0) (pv 3) (fun _ _ => rfl)) pe_int (fun _ _ => rfl)) (pv 4) (fun _ _ => rfl))))), ?_⟩
    obtain ⟨ps, ea, hps⟩ := id ha
    have lps := steps_len hps
    have hg := ok.good
    have lm : (ps.map V.ref).length = n := by rw [List.length_map, lps, hn]
    have hA : SqT K H a (ps.map V.ref) := SqT.of ea
    have hB : SqT K H b (intsV (sizes ss)) := SqT.of hb
    refine ⟨_, rfl, a, _, rfl, .inr hA, _, _, rfl, rfl, _, rfl, _, _, rfl, ?_⟩
    refine while_by (fun σ H1 => ∃ (m y : Nat) (t5 : Option V), σ = [some (.ref a), some (.ref b), some (.int (x : Int)), some (.int (m : Int)), some (.int (y : Int)), t5] ∧ H1 = H ∧ m < n ∧ (L ss m)[y]? = some c)
      (fun σ _ => match σ with
        | [_, _, _, some (.int m), _, _] => m.toNat
        | _ => 0) ⟨n - 1, x, none, ?_, rfl, by omega, hx⟩ ?_ ?_
    · have ec : V.int (((ps.map V.ref).length : Nat) - (1 : Int)) = V.int ((n - 1 : Nat) : Int) := congrArg V.int (by rw [lm]; omega)
      show [some (V.ref a), some (V.ref b), some (V.int (x : Int)), some (V.int (((ps.map V.ref).length : Nat) - (1 : Int))), some (V.int (x : Int)), none] = _
      rw [ec]
    · rintro σ H1 ⟨m, y, t5, rfl, rfl, hm, hy⟩
      have hlt : m < ps.length := by omega
      obtain ⟨st, hst, hat⟩ := steps_at hps m hlt
      have ht : SqT K H1 ps[m] (svals st) := SqT.of hat
      have okm := hg m st hst
      have hyz : y < Z ss m := (List.getElem?_eq_some_iff.mp hy).1
      cases st with
      | txt z =>
        refine ⟨_, rfl, _, rfl, a, _, _, _, rfl, rfl, hA, atI_nat (refs_at hlt), ps[m], _, 0, .str "text", rfl, rfl, ht, rfl, rfl, _, rfl, ?_⟩
        rw [decide_eq_true rfl]
        refine iteF ?_
        have okz := ok m _ hst
        rw [L_at hg hst] at hy
        exact ⟨_, rfl, _, rfl, a, _, _, _, rfl, rfl, hA, atI_nat (refs_at hlt), ps[m], _, 1, .str z, rfl, rfl, ht, rfl, _, rfl, z, (y : Int), c, rfl, rfl, Nat.le_trans okz.2 (by decide), atI_nat hy, q⟩
      | join i j =>
        refine ⟨_, rfl, _, rfl, a, _, _, _, rfl, rfl, hA, atI_nat (refs_at hlt), ps[m], _, 0, .str "join", rfl, rfl, ht, rfl, rfl, _, rfl, ?_⟩
        rw [decide_eq_false (show ¬ (V.str "join" = V.str "text") by decide +kernel)]
        refine iteT ?_
        refine ⟨_, rfl, _, rfl, a, _, _, _, rfl, rfl, hA, atI_nat (refs_at hlt), ?_⟩
        refine ⟨_, rfl, ps[m], _, 0, .str "join", rfl, rfl, ht, rfl, rfl, _, rfl, ?_⟩
        rw [decide_eq_false (show ¬ (V.str "join" = V.str "power") by decide +kernel)]
        refine iteF ?_
        refine ⟨_, rfl, _, rfl, _, rfl, ps[m], _, 1, .int (i : Int), rfl, rfl, ht, rfl, b, _, _, _, rfl, rfl, hB, atI_nat (sizes_at (by have := okm.1; omega)), _, _, rfl, rfl, _, rfl, ?_⟩
        have hj := join_get hg hst y
        rw [hy] at hj
        by_cases hl : y < Z ss i
        · rw [if_pos hl] at hj
          rw [decide_eq_true (show (y : Int) < (Z ss i : Int) by omega)]
          refine iteT ?_
          refine ⟨_, rfl, ps[m], _, 1, .int (i : Int), rfl, rfl, ht, rfl, ?_⟩
          refine ⟨⟨i, y, _, rfl, rfl, by have := okm.1; omega, hj.symm⟩, ?_⟩
          show ((i : Nat) : Int).toNat < ((m : Nat) : Int).toNat
          have := okm.1
          omega
        · rw [if_neg hl] at hj
          rw [decide_eq_false (show ¬ (y : Int) < (Z ss i : Int) by omega)]
          refine iteF ?_
          refine ⟨_, rfl, ps[m], _, 2, .int (j : Int), rfl, rfl, ht, rfl, _, rfl, _, rfl, _, rfl, ps[m], _, 1, .int (i : Int), rfl, rfl, ht, rfl, b, _, _, _, rfl, rfl, hB, atI_nat (sizes_at (by have := okm.1; omega)), _, _, rfl, rfl, _, _, rfl, ?_⟩
          have ec : V.int ((y : Int) - (Z ss i : Int)) = V.int ((y - Z ss i : Nat) : Int) := congrArg V.int (by omega)
          refine ⟨⟨j, y - Z ss i, some (.ref ps[m]), ?_, rfl, by have := okm.2; omega, hj.symm⟩, ?_⟩
          · show [some (V.ref a), some (V.ref b), some (V.int (x : Int)), some (V.int (j : Int)), some (V.int ((y : Int) - (Z ss i : Int))), some (V.ref ps[m])] = _
            rw [ec]
          · show ((j : Nat) : Int).toNat < ((m : Nat) : Int).toNat
            have := okm.2
            omega
      | pow i k =>
        obtain ⟨hp, hz⟩ := pow_get hg hst hyz
        rw [hy] at hp
        refine ⟨_, rfl, _, rfl, a, _, _, _, rfl, rfl, hA, atI_nat (refs_at hlt), ps[m], _, 0, .str "power", rfl, rfl, ht, rfl, rfl, _, rfl, ?_⟩
        rw [decide_eq_false (show ¬ (V.str "power" = V.str "text") by decide +kernel)]
        refine iteT ?_
        refine ⟨_, rfl, _, rfl, a, _, _, _, rfl, rfl, hA, atI_nat (refs_at hlt), ?_⟩
        refine ⟨_, rfl, ps[m], _, 0, .str "power", rfl, rfl, ht, rfl, rfl, _, rfl, ?_⟩
        rw [decide_eq_true rfl]
        refine iteT ?_
        have im : i < m := okm
        refine ⟨_, rfl, ps[m], _, 1, .int (i : Int), rfl, rfl, ht, rfl, _, rfl, _, rfl, _, rfl, ps[m], _, 1, .int (i : Int), rfl, rfl, ht, rfl, b, _, _, _, rfl, rfl, hB, atI_nat (sizes_at (by omega)), _, _, rfl, rfl, (show ((Z ss i : Nat) : Int) ≠ 0 by omega), _, _, rfl, ?_⟩
        have ec : V.int (Int.fmod (y : Int) (Z ss i : Int)) = V.int ((y % Z ss i : Nat) : Int) := congrArg V.int (by rw [Int.fmod_eq_emod_of_nonneg _ (by omega)]; rfl)
        refine ⟨⟨i, y % Z ss i, some (.ref ps[m]), ?_, rfl, by omega, hp.symm⟩, ?_⟩
        · show [some (V.ref a), some (V.ref b), some (V.int (x : Int)), some (V.int (i : Int)), some (V.int (Int.fmod (y : Int) (Z ss i : Int))), some (V.ref ps[m])] = _
          rw [ec]
        · show ((i : Nat) : Int).toNat < ((m : Nat) : Int).toNat
          omega
    · rintro σ H1 Q1 Q2 hQ ⟨v, e, v2, e2, a', xs, i', y', ex, ey, hs, hv, p', ys, j', z', ez, ew, hs2, hv2, hsc, c', ec, hq⟩
      exact ⟨v, e, v2, e2, a', xs, i', y', ex, ey, hs, hv, p', ys, j', z', ez, ew, hs2, hv2, hsc, c', ec, hQ _ _ hq⟩
end
end K58

set_option Elab.async false
set_option linter.all false
set_option maxRecDepth 100000
set_option maxHeartbeats 3200000
namespace K58
open PySem L2 Tx Tg Tm Sm
/-! ### steps as data -/
def stpD : Stp → PyData
  | .txt z => .tuple [.str "text", .str z]
  | .join i j => .tuple [.str "join", .int (i : Int), .int (j : Int)]
  | .pow i k => .tuple [.str "power", .int (i : Int), .int (k : Int)]
abbrev stpsD (ss : List Stp) : List PyData := ss.map stpD
theorem dp_stp {K : PySem.W.Frag} {H : Hp} {p : Addr} {s : Stp} (h : StpAt H p s) : Dp K H (.ref p) (stpD s) := by
  cases s with
  | txt z => exact .tup (SqT.of h) (.cons (.str _) (.cons (.str _) .nil))
  | join i j => exact .tup (SqT.of h) (.cons (.str _) (.cons (.int _) (.cons (.int _) .nil)))
  | pow i k => exact .tup (SqT.of h) (.cons (.str _) (.cons (.int _) (.cons (.int _) .nil)))
theorem dp_stps {K : PySem.W.Frag} {H : Hp} : ∀ {ps : List Addr} {ss : List Stp}, StpsAt H ps ss → DpAll K H (ps.map V.ref) (stpsD ss)
  | _, _, .nil => .nil
  | _, _, .cons h r => .cons (dp_stp h) (dp_stps r)
theorem dp_rowS {K : PySem.W.Frag} {H : Hp} {p : Addr} {ss : List Stp} (h : RowS H p ss) : Dp K H (.ref p) (.tuple (stpsD ss)) := let ⟨_, e, hp⟩ := h; .tup (SqT.of e) (dp_stps hp)
def plainS (z : Str) : Prop := ∀ c ∈ cds z, c < 128
theorem over_plain {sg z : Str} (h : Signs sg) (v : Over sg z) : plainS z := fun c hc => by
  have := sg_range h c (v c hc)
  omega
theorem lay_str {z : Str} (h : plainS z) : PyData.canLay0 (.str z) = true := by
  show z.cps.all (· < 0x110000) = true
  rw [Array.all_eq_true_iff_forall_mem]
  intro c hc
  have := h c (Array.mem_toList_iff.mpr hc)
  exact decide_eq_true (by omega)
def plainStp : Stp → Prop
  | .txt z => plainS z
  | _ => True
theorem okStp.plain {sg : Str} {n : Nat} {s : Stp} (h : Signs sg) (k : okStp sg n s) : plainStp s := by
  cases s with
  | txt z => exact over_plain h k.1
  | join i j => trivial
  | pow i k => trivial
theorem okStps.plain {sg : Str} {ss : List Stp} (h : Signs sg) (k : okStps sg ss) : ∀ s ∈ ss, plainStp s := fun s hs => by
  obtain ⟨i, hi⟩ := List.mem_iff_getElem?.mp hs
  exact (k i s hi).plain h
theorem lay_stp {s : Stp} (h : plainStp s) : (stpD s).canLay0 = true := by
  cases s with
  | txt z =>
    show (PyData.canLay0 (.str "text") && (PyData.canLay0 (.str z) && true)) = true
    rw [lay_str h]
    decide +kernel
  | join i j =>
    show (PyData.canLay0 (.str "join") && (true && (true && true))) = true
    decide +kernel
  | pow i k =>
    show (PyData.canLay0 (.str "power") && (true && (true && true))) = true
    decide +kernel
theorem lay_stps : ∀ ss : List Stp, (∀ s ∈ ss, plainStp s) → PyData.canLayAll0 (stpsD ss) = true
  | [], _ => rfl
  | s :: ss, h => by
    show ((stpD s).canLay0 && PyData.canLayAll0 (stpsD ss)) = true
    rw [lay_stp (h s List.mem_cons_self), lay_stps ss fun t ht => h t (List.mem_cons_of_mem _ ht)]
    rfl
theorem deep_stp (s : Stp) : (stpD s).depth = 1 := by cases s <;> rfl
theorem deep_stps : ∀ ss : List Stp, PyData.depthAll (stpsD ss) ≤ 1
  | [] => by decide
  | s :: ss => by
    show max (stpD s).depth (PyData.depthAll (stpsD ss)) ≤ 1
    rw [deep_stp]
    exact Nat.max_le.mpr ⟨Nat.le_refl _, deep_stps ss⟩
theorem shaped_rowS {ss : List Stp} (h : ∀ s ∈ ss, plainStp s) : SeqAt.shaped (.tuple (stpsD ss)) = true := by
  unfold SeqAt.shaped
  rw [Bool.and_eq_true]
  have := deep_stps ss
  exact ⟨lay_stps ss h, decide_eq_true (by show PyData.depthAll (stpsD ss) + 1 ≤ 64; omega)⟩
theorem int_beq (a b : Nat) : ((a : Int) == (b : Int)) = decide (a = b) := by
  rw [Bool.eq_iff_iff, beq_iff_eq, decide_eq_true_iff]
  omega
theorem eqv_str (a b : Str) : PyData.eqv (.str a) (.str b) = decide (a = b) := by
  show (a == b) = _
  rw [Bool.eq_iff_iff, beq_iff_eq, decide_eq_true_iff]
theorem eqv_stp (s t : Stp) : PyData.eqv (stpD s) (stpD t) = decide (s = t) := by
  have c1 : PyData.eqv (.str "text") (.str "join") = false := by decide +kernel
  have c2 : PyData.eqv (.str "text") (.str "power") = false := by decide +kernel
  have c3 : PyData.eqv (.str "join") (.str "text") = false := by decide +kernel
  have c4 : PyData.eqv (.str "join") (.str "power") = false := by decide +kernel
  have c5 : PyData.eqv (.str "power") (.str "text") = false := by decide +kernel
  have c6 : PyData.eqv (.str "power") (.str "join") = false := by decide +kernel
  have c7 : PyData.eqv (.str "text") (.str "text") = true := by decide +kernel
  have c8 : PyData.eqv (.str "join") (.str "join") = true := by decide +kernel
  have c9 : PyData.eqv (.str "power") (.str "power") = true := by decide +kernel
  cases s with
  | txt a =>
    cases t with
    | txt b =>
      show (PyData.eqv (.str "text") (.str "text") && (PyData.eqv (.str a) (.str b) && true)) = _
      rw [c7, eqv_str, Bool.true_and, Bool.and_true]
      exact decide_eq_decide.mpr ⟨fun e => by rw [e], fun e => by injection e⟩
    | join b c =>
      show (PyData.eqv (.str "text") (.str "join") && PyData.eqvAll [.str a] [.int (b : Int), .int (c : Int)]) = _
      rw [c1]
      exact (decide_eq_false (fun e => by cases e)).symm
    | pow b c =>
      show (PyData.eqv (.str "text") (.str "power") && PyData.eqvAll [.str a] [.int (b : Int), .int (c : Int)]) = _
      rw [c2]
      exact (decide_eq_false (fun e => by cases e)).symm
  | join a a' =>
    cases t with
    | txt b =>
      show (PyData.eqv (.str "join") (.str "text") && PyData.eqvAll [.int (a : Int), .int (a' : Int)] [.str b]) = _
      rw [c3]
      exact (decide_eq_false (fun e => by cases e)).symm
    | join b c =>
      show (PyData.eqv (.str "join") (.str "join") && (((a : Int) == (b : Int)) && (((a' : Int) == (c : Int)) && true))) = _
      rw [c8, int_beq, int_beq, Bool.true_and, Bool.and_true, ← Bool.decide_and]
      exact decide_eq_decide.mpr ⟨fun ⟨e1, e2⟩ => by rw [e1, e2], fun e => by injection e with e1 e2; exact ⟨e1, e2⟩⟩
    | pow b c =>
      show (PyData.eqv (.str "join") (.str "power") && PyData.eqvAll [.int (a : Int), .int (a' : Int)] [.int (b : Int), .int (c : Int)]) = _
      rw [c4]
      exact (decide_eq_false (fun e => by cases e)).symm
  | pow a a' =>
    cases t with
    | txt b =>
      show (PyData.eqv (.str "power") (.str "text") && PyData.eqvAll [.int (a : Int), .int (a' : Int)] [.str b]) = _
      rw [c5]
      exact (decide_eq_false (fun e => by cases e)).symm
    | join b c =>
      show (PyData.eqv (.str "power") (.str "join") && PyData.eqvAll [.int (a : Int), .int (a' : Int)] [.int (b : Int), .int (c : Int)]) = _
      rw [c6]
      exact (decide_eq_false (fun e => by cases e)).symm
    | pow b c =>
      show (PyData.eqv (.str "power") (.str "power") && (((a : Int) == (b : Int)) && (((a' : Int) == (c : Int)) && true))) = _
      rw [c9, int_beq, int_beq, Bool.true_and, Bool.and_true, ← Bool.decide_and]
      exact decide_eq_decide.mpr ⟨fun ⟨e1, e2⟩ => by rw [e1, e2], fun e => by injection e with e1 e2; exact ⟨e1, e2⟩⟩
theorem eqv_stps : ∀ ss tt : List Stp, PyData.eqvAll (stpsD ss) (stpsD tt) = decide (ss = tt)
  | [], [] => rfl
  | [], _ :: _ => rfl
  | _ :: _, [] => rfl
  | s :: ss, t :: tt => by
    show (PyData.eqv (stpD s) (stpD t) && PyData.eqvAll (stpsD ss) (stpsD tt)) = _
    rw [eqv_stp, eqv_stps ss tt, ← Bool.decide_and]
    exact decide_eq_decide.mpr ⟨fun ⟨e1, e2⟩ => by rw [e1, e2], fun e => by injection e with e1 e2; exact ⟨e1, e2⟩⟩
theorem eq_rowS (ss tt : List Stp) : PyData.eqv (.tuple (stpsD ss)) (.tuple (stpsD tt)) = decide (ss = tt) := eqv_stps ss tt
end K58

set_option Elab.async false
set_option linter.all false
set_option maxRecDepth 100000
set_option maxHeartbeats 3200000
namespace K58
open PySem L2 Tx Tg Tm Sm
abbrev sPInit : Stmt := inClass sProg 0
abbrev sPOf : Stmt := inClass sProg 1
abbrev sPLet : Stmt := inClass sProg 2
abbrev sPSteps : Stmt := inClass sProg 3
abbrev sPSize : Stmt := inClass sProg 4
abbrev sPPower : Stmt := inClass sProg 5
abbrev sPText : Stmt := inClass sProg 6
abbrev sPIx : Stmt := inClass sProg 7
abbrev sPLen : Stmt := inClass sProg 9
abbrev sPEq : Stmt := inClass sProg 10
abbrev sPStr : Stmt := inClass sProg 11
abbrev sPAdd : Stmt := inClass sProg 12
abbrev sPWith : Stmt := inClass sProg 13
def pf (sg : Str) (a b : Addr) : List (Str × V) := [("_letters", .str sg), ("_steps", .ref a), ("_sizes", .ref b)]
structure okP (sg : Str) (ss : List Stp) : Prop where
  ok : okStps sg ss
  one : 1 ≤ ss.length
  few : ss.length ≤ 40
  small : ∀ i, i < ss.length → Z ss i < 10 ^ 400
def ProgAt (C : Addr) (H : Hp) (p : Addr) (sg : Str) (ss : List Stp) : Prop := ∃ dx a b, H p = some (.ins C dx (pf sg a b)) ∧ RowS H a ss ∧ H b = some (.tup (intsV (sizes ss)))
theorem ProgAt.same {C : Addr} {H H' : Hp} {p : Addr} {sg : Str} {ss : List Stp} (s : Same H H') (h : ProgAt C H p sg ss) : ProgAt C H' p sg ss := let ⟨dx, a, b, e, h1, h2⟩ := h; ⟨dx, a, b, s _ _ e, h1.keep (.same s), s _ _ h2⟩
theorem ProgAt.but {C c : Addr} {H H' : Hp} {p : Addr} {sg : Str} {ss : List Stp} (hc : Cup H c) (b : But c H H') (h : ProgAt C H p sg ss) : ProgAt C H' p sg ss := by
  obtain ⟨dx, a, b', e, h1, h2⟩ := h
  have k := KeepT.but hc.noT b
  obtain ⟨_, _, _, ec⟩ := hc
  exact ⟨dx, a, b', b _ _ (ne_of e ec (by intro z; cases z)) e, h1.keep k, k _ _ h2⟩
/-- the class of programs -/
structure WP (K : PySem.W.Frag) (mg : Str → Option Value) (C : Addr) : Prop where
  gP : mg "Program" = some (.ref C)
  cl : Cls K C
  nL : NoAttr K C "_letters"
  nS : NoAttr K C "_steps"
  nZ : NoAttr K C "_sizes"
  tyP : ∀ (H : Hp) (a dx : Addr) (fs : List (Str × V)), H a = some (.ins C dx fs) → TyX K H (.ref a) (.ref C)
  iPP : PySem.W.kitOne K (.ref C) (.ref C) = some true
theorem last_at {ss : List Stp} (h : 1 ≤ ss.length) : atI (intsV (sizes ss)) (-1) = some (.int (Z ss (ss.length - 1) : Int)) := by
  have e := sizes_take (ss := ss) (i := ss.length - 1) (by omega)
  have e2 : ss.length - 1 + 1 = ss.length := by omega
  rw [e2, List.take_of_length_le (by rw [sizes_len]; exact Nat.le_refl _)] at e
  rw [e, intsV_app]
  exact atI_last _ _
section
variable {P : Program} {w : World} {K : PySem.W.Frag} {mg : Str → Option Value} {base : Heap}
def spPInit (C : Addr) : Sp := fun vs H Q _ => ∃ (x dx : Addr) (sg : Str) (a : Addr) (ss : List Stp), vs = [.ref x, .str sg, .ref a] ∧ H x = some (.ins C dx []) ∧ Signs sg ∧ RowS H a ss ∧ okP sg ss ∧ ∀ H', But x H H' → ProgAt C H' x sg ss → Q .non H'
theorem scPInit : FnScope ["self", "letters", "steps"] ["self", "letters", "steps"] (defScope sPInit) := ⟨rfl, rfl, rfl, by decide +kernel, rfl, by decide +kernel, by decide +kernel⟩
theorem ok_pinit {f fA fZ fS fB fI fH fL fC fT C : Addr} {fd dA dZ dS dB dI dH dL dC dT : FuncData} (F : Fun K "__init__" "Program.__init__" sPInit f fd) (T : Txt K mg) (W : WP K mg C) (G : Low K mg fI fH fL fC fT dI dH dL dC dT)
    (DB : Df K mg "is_between" sIsBetween ["value", "most"] fB dB) (DS : Df K mg "is_step" sIsStep ["letters", "value", "at"] fS dS) (DA : Df K mg "are_steps" sAreSteps ["letters", "value", "most"] fA dA) (DZ : Df K mg "step_sizes" sSizes ["steps", "limit"] fZ dZ) :
    FnOk P w K mg base CX0 7 f fd ["self", "letters", "steps"] (spPInit C) := by
  have GC := ok_passL (P := P) (w := w) (base := base) G.DC.F T G.DH G.DL
  have GA := ok_are (P := P) (w := w) (base := base) DA.F T G DB DS
  have GZ := ok_sizes (P := P) (w := w) (base := base) DZ.F T
  refine F.ok scPInit (fun vs H Q E h => ?_) (fun cdv A outer s H vs Q E hr h => ?_)
  · obtain ⟨x, dx, sg, a, ss, rfl, _⟩ := h
    rfl
  · obtain ⟨x, dx, sg, a, ss, rfl, hx, hsg, ha, ok, q⟩ := h
    have r3 : Room 3 _ := hr.mono (by decide)
    have r1 : Room 1 _ := hr.mono (by decide)
    obtain ⟨t1, g1⟩ := T.mStp
    obtain ⟨t2, g2⟩ := T.mSiz
    refine ⟨_, pss_cons (ps_expr (pe_call GC r3 (by rfl) G.DC.m G.DC.F.kp G.DC.b .nil pass0 (pa_cons (pv 1) pa_nil)))
      (pss_cons (ps_if (pt_not (pt_val (pe_call GA hr (by rfl) DA.m DA.F.kp DA.b .nil pass0 (pa_cons (pv 1) (pa_cons (pv 2) (pa_cons (pe_glob (v := .int 40) rfl g1 ⟨_, rfl⟩) pa_nil)))))) (pss_one ps_never) pss_nil)
      (pss_cons (ps_fld (pv 0) (pv 1) rfl) (pss_cons (ps_fld (pv 0) (pv 2) rfl)
      (pss_one (ps_fld (pv 0) (pe_call GZ r1 (by rfl) DZ.m DZ.F.kp DZ.b .nil pass0 (pa_cons (pv 2) (pa_cons (pe_glob (v := .int (10 ^ 400)) rfl g2 ⟨_, rfl⟩) pa_nil))) rfl))))), ?_⟩
    refine ⟨_, rfl, sg, rfl, hsg, fun H1 s1 => ?_⟩
    refine ⟨_, rfl, _, rfl, sg, a, ss, 40, rfl, hsg, ha.keep (.same s1), ok.ok, ok.one, ok.few, by decide, fun H2 s2 => ⟨_, rfl, iteF ?_⟩⟩
    have s12 := s1.trans s2
    have hx2 := s12 _ _ hx
    refine ⟨_, rfl, _, rfl, x, C, dx, [], rfl, hx2, W.cl, W.nL, by decide, ?_⟩
    refine ⟨_, rfl, _, rfl, x, C, dx, _, rfl, upd_same, W.cl, W.nS, (by show 1 < 1000; decide), ?_⟩
    have b3 : But x H (upd (upd H2 x (.ins C dx [("_letters", .str sg)])) x (.ins C dx [("_letters", .str sg), ("_steps", .ref a)])) := fun b o n e => by
      rw [upd_ne n, upd_ne n]
      exact s12 _ _ e
    have e3 : (upd (upd H2 x (.ins C dx [("_letters", .str sg)])) x (.ins C dx [("_letters", .str sg), ("_steps", .ref a)])) x = some (.ins C dx [("_letters", .str sg), ("_steps", .ref a)]) := upd_same
    have k3 : KeepT H (upd (upd H2 x (.ins C dx [("_letters", .str sg)])) x (.ins C dx [("_letters", .str sg), ("_steps", .ref a)])) := (KeepT.same s12).trans ((KeepT.upd (.ins hx2)).trans (KeepT.upd (.ins upd_same)))
    refine ⟨_, rfl, sg, a, ss, rfl, ha.keep k3, ok.ok, by have := ok.few; omega, ok.small, fun p H4 s4 h4 => ?_⟩
    have hx4 := s4 _ _ e3
    refine ⟨_, rfl, x, C, dx, _, rfl, hx4, W.cl, W.nZ, (by show 2 < 1000; decide), ?_⟩
    have kx := KeepT.upd (o := .ins C dx (pf sg a p)) (NoT.ins hx4)
    refine q _ (fun b o n e => ?_) ⟨dx, a, p, upd_same, (ha.keep k3).keep ((KeepT.same s4).trans kx), kx _ _ h4⟩
    rw [upd_ne n]
    exact s4 _ _ (b3 _ _ n e)
/-- how one is made -/
structure MkP (P : Program) (w : World) (K : PySem.W.Frag) (mg : Str → Option Value) (base : Heap) (C fi : Addr) (di : FuncData) : Prop where
  W : WP K mg C
  M : Mk K C fi
  gi : FnOk P w K mg base CX0 7 fi di ["self", "letters", "steps"] (spPInit C)
  bi : Binds K di ["self", "letters", "steps"] []
theorem made_tail {C : Addr} {H : Hp} {Q : VK} {E : XK} {sg : Str} {a : Addr} {ss : List Stp} (hsg : Signs sg) (ha : RowS H a ss) (ok : okP sg ss) (q : ∀ x H', Same H H' → ProgAt C H' x sg ss → Q (.ref x) H') :
    ∀ x dx, H x = none → H dx = none → dx ≠ x → spPInit C (.ref x :: ([V.str sg, V.ref a] ++ [])) (upd (upd H dx (.own x)) x (.ins C dx [])) (fun v H2 => v = .non ∧ Q (.ref x) H2) E := fun x dx nx ndx nex => by
  have sX : Same H (upd (upd H dx (.own x)) x (.ins C dx [])) := fun b o e => by
    rw [upd_ne (ne_of_none e nx), upd_ne (ne_of_none e ndx)]
    exact e
  refine ⟨x, dx, sg, a, ss, rfl, upd_same, hsg, ha.keep (.same sX), ok, fun H' b h => ⟨rfl, q x H' (fun c o e => b _ _ (ne_of_none e nx) (sX _ _ e)) h⟩⟩
def spWith (C : Addr) : Sp := fun vs H Q _ => ∃ (p a : Addr) (sg : Str) (ss tt : List Stp), vs = [.ref p, .ref a] ∧ ProgAt C H p sg tt ∧ Signs sg ∧ RowS H a ss ∧ okP sg ss ∧ ∀ x H', Same H H' → ProgAt C H' x sg ss → Q (.ref x) H'
theorem scWith : FnScope ["self", "steps"] ["self", "steps"] (defScope sPWith) := ⟨rfl, rfl, rfl, by decide +kernel, rfl, by decide +kernel, by decide +kernel⟩
theorem ok_with {f fM C fi : Addr} {fd dM di : FuncData} (F : Fun K "_with" "Program._with" sPWith f fd) (T : Txt K mg) (G : MkP P w K mg base C fi di) (DM : Df K mg "check_most" sMost ["many", "limit"] fM dM) : FnOk P w K mg base CX0 9 f fd ["self", "steps"] (spWith C) := by
  have GM := ok_most (P := P) (w := w) (base := base) DM.F T
  refine F.ok scWith (fun vs H Q E h => ?_) (fun cdv A outer s H vs Q E hr h => ?_)
  · obtain ⟨p, a, sg, ss, tt, rfl, _⟩ := h
    rfl
  · obtain ⟨p, a, sg, ss, tt, rfl, ⟨dx, a0, b0, hp, _⟩, hsg, ha, ok, q⟩ := h
    have r1 : Room 1 _ := hr.mono (by decide)
    obtain ⟨t1, g1⟩ := T.mStp
    refine ⟨_, pss_cons (ps_expr (pe_call GM r1 (by rfl) DM.m DM.F.kp DM.b .nil pass0 (pa_cons (pe_callB call_len_seq (by rfl) T.len PySem.boot_len (pa_cons (pv 1) pa_nil)) (pa_cons (pe_glob (v := .int 40) rfl g1 ⟨_, rfl⟩) pa_nil))))
      (pss_one (ps_ret (pe_make G.M G.gi hr (by rfl) G.W.gP G.bi .nil pass0 (pa_cons (pe_fld (pv 0) rfl) (pa_cons (pv 1) pa_nil))))), ?_⟩
    obtain ⟨ps, ea, hps⟩ := id ha
    have lps := steps_len hps
    refine ⟨_, rfl, a, _, rfl, .inr (SqT.of ea), ss.length, 40, by rw [List.length_map, lps]; rfl, ok.few, ?_⟩
    refine ⟨_, rfl, p, C, dx, _, _, rfl, hp, G.W.cl, G.W.nL, rfl, _, rfl, ?_⟩
    exact made_tail hsg ha ok q
def spPOf (C : Addr) : Sp := fun vs H Q _ => ∃ (sg z : Str), vs = [.ref C, .str sg, .str z] ∧ Signs sg ∧ Over sg z ∧ z.length ≤ 100 ∧ ∀ x H', Same H H' → ProgAt C H' x sg [.txt z] → Q (.ref x) H'
theorem scPOf : FnScope ["cls", "letters", "text"] ["cls", "letters", "text"] (defScope sPOf) := ⟨rfl, rfl, rfl, by decide +kernel, rfl, by decide +kernel, by decide +kernel⟩
theorem ok_one {sg z : Str} (hz : Over sg z) (hl : z.length ≤ 100) : okP sg [.txt z] where
  ok := fun i s h => by
    cases i with
    | zero => cases h; exact ⟨hz, hl⟩
    | succ i => cases h
  one := Nat.le_refl _
  few := by show 1 ≤ 40; decide
  small := fun i hi => by
    have hi : i < 1 := hi
    obtain rfl : i = 0 := by omega
    show (cds z).length < 10 ^ 400
    rw [cds_len]
    exact Nat.lt_of_le_of_lt hl (by decide +kernel)
theorem pe_makeV {X : Cx} {CX : CXT} {k i : Nat} {f C : Addr} {fd : FuncData} {ps : List Str} {sp : Sp} {E : XK} {x : Str} {p pos : Pos} {e : Expr} {es : List Expr} {t : TA} {dvs : List V} {ds : List Value} (hv : PE X (.Name x p) (tVar i)) (M : Mk X.K C f)
    (F : FnOk X.prog X.w X.K X.mg X.base CX k f fd ps sp) (hr : Room (k + 1) X.A) (hb : Binds X.K fd ps ds) (hd : Vals dvs ds) (hx : Passes CX X E)
    (ha : PA X (e :: es) t) (he : starEach (e :: es) X.env = (false, eval e X.env) :: starEach es X.env := by rfl) (hpl : (backTo pos (starEach es X.env)).any (·.1) = false := by rfl) :
    PE X (.Call (.Name x p) (e :: es) [] pos) (fun σ H Q => σ[i]? = some (some (.ref C)) ∧ tMake C sp dvs E t σ H Q) := by
  refine ⟨fun pins s σ H Q I h => ?_⟩
  obtain ⟨h0, h⟩ := h
  refine wpAny_Call_Name_kw (thn (hv.run pins s σ H (fun v H' => v = .ref C ∧ H' = H) I ⟨_, h0, rfl, rfl⟩) fun u s1 ⟨v, H1, I1, rv, e1, e2⟩ => ?_)
  subst e1 e2
  cases rv
  refine PySem.W.callWith_K (h₀ := X.base) I1.ok.mod.kin M.kp (thn (ha.run pos pins s1 σ _ _ I1 h) fun us s1 ⟨vs, H1, I1, r, q⟩ => ⟨I1.kIn, ?_⟩) he hpl
  exact run_make M F hr hb hd hx I1 r q
theorem ok_pof {f fX fI fH fL fC fT C fi : Addr} {fd dX dI dH dL dC dT di : FuncData} (F : Fun K "of" "Program.of" sPOf f fd) (T : Txt K mg) (G : MkP P w K mg base C fi di) (L : Low K mg fI fH fL fC fT dI dH dL dC dT) (DX : Df K mg "check_text" sCText ["letters", "value"] fX dX) : FnOk P w K mg base CX0 9 f fd ["cls", "letters", "text"] (spPOf C) := by
  have GX := ok_ctext (P := P) (w := w) (base := base) DX.F T L
  refine F.ok scPOf (fun vs H Q E h => ?_) (fun cdv A outer s H vs Q E hr h => ?_)
  · obtain ⟨sg, z, rfl, _⟩ := h
    rfl
  · obtain ⟨sg, z, rfl, hsg, hz, hl, q⟩ := h
    have r5 : Room 5 _ := hr.mono (by decide)
    refine ⟨_, pss_cons (ps_expr (pe_call GX r5 (by rfl) DX.m DX.F.kp DX.b .nil pass0 (pa_cons (pv 1) (pa_cons (pv 2) pa_nil))))
      (pss_one (ps_ret (pe_makeV (i := 0) (pv 0) G.M G.gi hr G.bi .nil pass0 (pa_cons (pv 1) (pa_cons (pe_tup (pa_cons (pe_tup (pa_cons pe_str (pa_cons (pv 2) pa_nil))) pa_nil)) pa_nil))))), ?_⟩
    refine ⟨_, rfl, _, rfl, sg, z, rfl, hsg, hz, hl, fun H1 s1 => ⟨rfl, _, rfl, _, rfl, (by show 2 ≤ sizeLine; decide), fun p1 n1 => ⟨(by show 1 ≤ sizeLine; decide), fun p2 n2 => ?_⟩⟩⟩
    have s2 := same_upd (o := .tup [V.str "text", V.str z]) n1
    have s3 := same_upd (o := .tup [V.ref p1]) n2
    refine made_tail hsg (ss := [.txt z]) ⟨[p1], upd_same, .cons (s3 _ _ upd_same) .nil⟩ (ok_one hz hl) fun x H' s h => q x H' (((s1.trans s2).trans s3).trans s) h
/-! ### what is told -/
def spPLet (C : Addr) : Sp := fun vs H Q _ => ∃ (p : Addr) (sg : Str) (ss : List Stp), vs = [.ref p] ∧ ProgAt C H p sg ss ∧ Q (.str sg) H
theorem scPLet : FnScope ["self"] ["self"] (defScope sPLet) := ⟨rfl, rfl, rfl, by decide +kernel, rfl, by decide +kernel, by decide +kernel⟩
theorem ok_plet {f C : Addr} {fd : FuncData} (F : Fun K "letters" "Program.letters" sPLet f fd) (W : WP K mg C) : FnOk P w K mg base CX0 1 f fd ["self"] (spPLet C) := by
  refine F.ok scPLet (fun vs H Q E h => ?_) (fun cdv A outer s H vs Q E hr h => ?_)
  · obtain ⟨p, sg, ss, rfl, _⟩ := h
    rfl
  · obtain ⟨p, sg, ss, rfl, ⟨dx, a, b, hp, _⟩, q⟩ := h
    exact ⟨_, pss_one (ps_ret (pe_fld (pv 0) rfl)), _, rfl, p, C, dx, _, _, rfl, hp, W.cl, W.nL, rfl, q⟩
def spPSteps (C : Addr) : Sp := fun vs H Q _ => ∃ (p : Addr) (sg : Str) (ss : List Stp), vs = [.ref p] ∧ ProgAt C H p sg ss ∧ ∀ a, RowS H a ss → Q (.ref a) H
theorem scPSteps : FnScope ["self"] ["self"] (defScope sPSteps) := ⟨rfl, rfl, rfl, by decide +kernel, rfl, by decide +kernel, by decide +kernel⟩
theorem ok_psteps {f C : Addr} {fd : FuncData} (F : Fun K "steps" "Program.steps" sPSteps f fd) (W : WP K mg C) : FnOk P w K mg base CX0 1 f fd ["self"] (spPSteps C) := by
  refine F.ok scPSteps (fun vs H Q E h => ?_) (fun cdv A outer s H vs Q E hr h => ?_)
  · obtain ⟨p, sg, ss, rfl, _⟩ := h
    rfl
  · obtain ⟨p, sg, ss, rfl, ⟨dx, a, b, hp, ha, _⟩, q⟩ := h
    exact ⟨_, pss_one (ps_ret (pe_fld (pv 0) rfl)), _, rfl, p, C, dx, _, _, rfl, hp, W.cl, W.nS, rfl, q a ha⟩
def spPSize (C : Addr) : Sp := fun vs H Q _ => ∃ (p : Addr) (sg : Str) (ss : List Stp), vs = [.ref p] ∧ ProgAt C H p sg ss ∧ 1 ≤ ss.length ∧ Q (.int (Z ss (ss.length - 1) : Int)) H
theorem scPSize : FnScope ["self"] ["self"] (defScope sPSize) := ⟨rfl, rfl, rfl, by decide +kernel, rfl, by decide +kernel, by decide +kernel⟩
theorem ok_psize {f C : Addr} {fd : FuncData} (F : Fun K "size" "Program.size" sPSize f fd) (W : WP K mg C) : FnOk P w K mg base CX0 1 f fd ["self"] (spPSize C) := by
  refine F.ok scPSize (fun vs H Q E h => ?_) (fun cdv A outer s H vs Q E hr h => ?_)
  · obtain ⟨p, sg, ss, rfl, _⟩ := h
    rfl
  · obtain ⟨p, sg, ss, rfl, ⟨dx, a, b, hp, ha, hb⟩, h1, q⟩ := h
    refine ⟨_, pss_one (ps_ret (pe_ix ix_tup (pe_fld (pv 0) rfl) (pe_un un_neg pe_int) (fun _ _ => rfl))), ?_⟩
    exact ⟨_, rfl, p, C, dx, _, _, rfl, hp, W.cl, W.nZ, rfl, _, rfl, b, _, _, _, rfl, rfl, SqT.of hb, last_at h1, q⟩
def spPLen (C : Addr) : Sp := fun vs H Q _ => ∃ (p : Addr) (sg : Str) (ss : List Stp), vs = [.ref p] ∧ ProgAt C H p sg ss ∧ Q (.int (ss.length : Nat)) H
theorem scPLen : FnScope ["self"] ["self"] (defScope sPLen) := ⟨rfl, rfl, rfl, by decide +kernel, rfl, by decide +kernel, by decide +kernel⟩
theorem ok_plen {f C : Addr} {fd : FuncData} (F : Fun K "__len__" "Program.__len__" sPLen f fd) (T : Txt K mg) (W : WP K mg C) : FnOk P w K mg base CX0 1 f fd ["self"] (spPLen C) := by
  refine F.ok scPLen (fun vs H Q E h => ?_) (fun cdv A outer s H vs Q E hr h => ?_)
  · obtain ⟨p, sg, ss, rfl, _⟩ := h
    rfl
  · obtain ⟨p, sg, ss, rfl, ⟨dx, a, b, hp, ⟨ps, ea, hps⟩, hb⟩, q⟩ := h
    refine ⟨_, pss_one (ps_ret (pe_callB call_len_seq (by rfl) T.len PySem.boot_len (pa_cons (pe_fld (pv 0) rfl) pa_nil))), ?_⟩
    refine ⟨_, rfl, p, C, dx, _, _, rfl, hp, W.cl, W.nS, rfl, a, _, rfl, .inr (SqT.of ea), ?_⟩
    rw [List.length_map, steps_len hps]
    exact q
def spPEq (C : Addr) : Sp := fun vs H Q _ => ∃ (p o : Addr) (sg : Str) (ss tt : List Stp), vs = [.ref p, .ref o] ∧ ProgAt C H p sg ss ∧ ProgAt C H o sg tt ∧ (∀ s ∈ ss, plainStp s) ∧ (∀ s ∈ tt, plainStp s) ∧ Q (.bl (decide (ss = tt))) H
theorem scPEq : FnScope ["self", "other"] ["self", "other"] (defScope sPEq) := ⟨rfl, rfl, rfl, by decide +kernel, rfl, by decide +kernel, by decide +kernel⟩
theorem ok_peq {f C : Addr} {fd : FuncData} (F : Fun K "__eq__" "Program.__eq__" sPEq f fd) (T : Txt K mg) (W : WP K mg C) : FnOk P w K mg base CX0 1 f fd ["self", "other"] (spPEq C) := by
  refine F.ok scPEq (fun vs H Q E h => ?_) (fun cdv A outer s H vs Q E hr h => ?_)
  · obtain ⟨p, o, sg, ss, tt, rfl, _⟩ := h
    rfl
  · obtain ⟨p, o, sg, ss, tt, rfl, ⟨dx, a, b, hp, ha, _⟩, ⟨dy, a', b', ho, ha', _⟩, pl, pl', q⟩ := h
    refine ⟨_, pss_one (ps_ret (pe_and (pe_callB call_isi (by rfl) T.isi (by decide +kernel) (pa_cons (pv 1) (pa_cons (pe_glob (v := .ref C) (by rfl) W.gP rfl) pa_nil)))
      (pe_and (pe_cmpR op_eq (pe_fld (pv 0) rfl) (pe_fld (pv 1) rfl) (nomark _)) (pe_one (pe_cmpR (op_eqD hr.units) (pe_fld (pv 0) rfl) (pe_fld (pv 1) rfl) (nomark _)))))), ?_⟩
    refine ⟨_, rfl, _, _, _, _, _, rfl, .own C, W.tyP _ _ _ _ ho, W.iPP, true, rfl, iteT ?_⟩
    refine ⟨_, rfl, p, C, dx, _, _, rfl, hp, W.cl, W.nL, rfl, _, rfl, o, C, dy, _, _, rfl, ho, W.cl, W.nL, rfl, rfl, _, rfl, ?_⟩
    rw [decide_eq_true rfl]
    refine iteT ?_
    refine ⟨_, rfl, p, C, dx, _, _, rfl, hp, W.cl, W.nS, rfl, _, rfl, o, C, dy, _, _, rfl, ho, W.cl, W.nS, rfl, _, _, dp_rowS ha, dp_rowS ha', shaped_rowS pl, shaped_rowS pl', ?_⟩
    rw [eq_rowS]
    exact q
def spPEqX (K : PySem.W.Frag) (C : Addr) : Sp := fun vs H Q _ => ∃ (p : Addr) (v : V) (t : Value), vs = [.ref p, v] ∧ TyX K H v t ∧ PySem.W.kitOne K t (.ref C) = some false ∧ Q (.bl false) H
theorem ok_peqX {f C : Addr} {fd : FuncData} (F : Fun K "__eq__" "Program.__eq__" sPEq f fd) (T : Txt K mg) (W : WP K mg C) : FnOk P w K mg base CX0 1 f fd ["self", "other"] (spPEqX K C) := by
  refine F.ok scPEq (fun vs H Q E h => ?_) (fun cdv A outer s H vs Q E hr h => ?_)
  · obtain ⟨p, v, t, rfl, _⟩ := h
    rfl
  · obtain ⟨p, v, t, rfl, ty, hk, q⟩ := h
    refine ⟨_, pss_one (ps_ret (pe_and (pe_callB call_isi (by rfl) T.isi (by decide +kernel) (pa_cons (pv 1) (pa_cons (pe_glob (v := .ref C) (by rfl) W.gP rfl) pa_nil)))
      (pe_and (pe_cmpR op_eq (pe_fld (pv 0) rfl) (pe_fld (pv 1) rfl) (nomark _)) (pe_one (pe_cmpR (op_eqD hr.units) (pe_fld (pv 0) rfl) (pe_fld (pv 1) rfl) (nomark _)))))), ?_⟩
    exact ⟨_, rfl, _, _, _, _, _, rfl, .own C, ty, hk, false, rfl, iteF q⟩
def toldP (n : Nat) (sg : Str) : Str := (("program of " : Str) ++ ((toString (n : Int) : String) : Str) ++ (" steps over " : Str)) ++ sg
def spPStr (C : Addr) : Sp := fun vs H Q _ => ∃ (p : Addr) (sg : Str) (ss : List Stp), vs = [.ref p] ∧ ProgAt C H p sg ss ∧ Signs sg ∧ ss.length ≤ 40 ∧ Q (.str (toldP ss.length sg)) H
theorem scPStr : FnScope ["self"] ["self"] (defScope sPStr) := ⟨rfl, rfl, rfl, by decide +kernel, rfl, by decide +kernel, by decide +kernel⟩
theorem small_text : ∀ n < 41, ((toString ((n : Nat) : Int) : String) : Str).length ≤ 10 ∧ ((n : Nat) : Int).natAbs.log2 < 1920 := by decide +kernel
theorem str_len (a b : Str) : (a ++ b).length = a.length + b.length := Array.size_append
theorem empty_app (a : Str) : Str.empty ++ a = a := cds_ext (by rw [cds_app]; rfl)
theorem ok_pstr {f C : Addr} {fd : FuncData} (F : Fun K "__str__" "Program.__str__" sPStr f fd) (T : Txt K mg) (W : WP K mg C) : FnOk P w K mg base CX0 1 f fd ["self"] (spPStr C) := by
  refine F.ok scPStr (fun vs H Q E h => ?_) (fun cdv A outer s H vs Q E hr h => ?_)
  · obtain ⟨p, sg, ss, rfl, _⟩ := h
    rfl
  · obtain ⟨p, sg, ss, rfl, ⟨dx, a, b, hp, ⟨ps, ea, hps⟩, hb⟩, hsg, ll, q⟩ := h
    refine ⟨_, pss_one (ps_ret (pe_joined (.cons pe_str (.cons (pe_fmt (pe_callB call_len_seq (by rfl) T.len PySem.boot_len (pa_cons (pe_fld (pv 0) rfl) pa_nil))) (.cons pe_str (.cons (pe_fmt (pe_fld (pv 0) rfl)) .nil)))))), ?_⟩
    have hlen : (ps.map V.ref).length = ss.length := by rw [List.length_map, steps_len hps]
    have st := small_text ss.length (by omega)
    have sl := (sg_len hsg).2
    have l1 : ("program of " : Str).length = 11 := by decide +kernel
    have l2 : (" steps over " : Str).length = 12 := by decide +kernel
    have le : (Str.empty : Str).length = 0 := rfl
    refine ⟨_, rfl, ?_, _, rfl, p, C, dx, _, _, rfl, hp, W.cl, W.nS, rfl, a, _, rfl, .inr (SqT.of ea), .inr ⟨_, rfl, ?_, _, rfl, ?_, _, rfl, ?_, _, rfl, p, C, dx, _, _, rfl, hp, W.cl, W.nL, rfl, .inl ⟨sg, rfl, ?_, sg, rfl, ?_, ?_⟩⟩⟩
    · rw [str_len, le, l1]
      decide
    · rw [hlen]
      exact st.2
    · rw [hlen, str_len, str_len, le, l1]
      exact Nat.le_trans (show _ ≤ 100 by omega) (by decide)
    · rw [hlen, str_len, str_len, str_len, le, l1, l2]
      exact Nat.le_trans (show _ ≤ 100 by omega) (by decide)
    · exact Nat.le_trans sl (by decide)
    · rw [hlen, str_len, str_len, str_len, str_len, le, l1, l2]
      exact Nat.le_trans (show _ ≤ 100 by omega) (by decide)
    · rw [hlen, empty_app]
      exact q
def spPIx (C : Addr) : Sp := fun vs H Q _ => ∃ (p : Addr) (sg : Str) (ss : List Stp) (x c : Nat), vs = [.ref p, .int (x : Int)] ∧ ProgAt C H p sg ss ∧ okP sg ss ∧ x < 10 ^ 200 ∧ (L ss (ss.length - 1))[x]? = some c ∧ Q (.str (one c)) H
theorem scPIx : FnScope ["self", "at"] ["self", "at"] (defScope sPIx) := ⟨rfl, rfl, rfl, by decide +kernel, rfl, by decide +kernel, by decide +kernel⟩
theorem ok_pix {f fB fI fA C : Addr} {fd dB dI dA : FuncData} (F : Fun K "__getitem__" "Program.__getitem__" sPIx f fd) (T : Txt K mg) (W : WP K mg C) (DI : Df K mg "is_integer" sInt ["value"] fI dI) (DB : Df K mg "is_between" sIsBetween ["value", "most"] fB dB) (DA : Df K mg "letter_at" sLetterAt ["steps", "sizes", "index"] fA dA) :
    FnOk P w K mg base CX0 3 f fd ["self", "at"] (spPIx C) := by
  have GB := ok_isb (P := P) (w := w) (base := base) DB.F T DI
  have GA := ok_letter (P := P) (w := w) (base := base) DA.F T
  refine F.ok scPIx (fun vs H Q E h => ?_) (fun cdv A outer s H vs Q E hr h => ?_)
  · obtain ⟨p, sg, ss, x, c, rfl, _⟩ := h
    rfl
  · obtain ⟨p, sg, ss, x, c, rfl, ⟨dx, a, b, hp, ha, hb⟩, ok, hx, hc, q⟩ := h
    have r1 : Room 1 _ := hr.mono (by decide)
    refine ⟨_, pss_cons (ps_if (pt_not (pt_val (pe_call GB hr (by rfl) DB.m DB.F.kp DB.b .nil pass0 (pa_cons (pv 1) (pa_cons (pe_op op_sub (pe_ix ix_tup (pe_fld (pv 0) rfl) (pe_un un_neg pe_int) (fun _ _ => rfl)) pe_int) pa_nil))))) (pss_one ps_never) pss_nil)
      (pss_one (ps_ret (pe_call GA r1 (by rfl) DA.m DA.F.kp DA.b .nil pass0 (pa_cons (pe_fld (pv 0) rfl) (pa_cons (pe_fld (pv 0) rfl) (pa_cons (pv 1) pa_nil)))))), ?_⟩
    have hz : x < Z ss (ss.length - 1) := (List.getElem?_eq_some_iff.mp hc).1
    refine ⟨_, rfl, _, rfl, p, C, dx, _, _, rfl, hp, W.cl, W.nZ, rfl, _, rfl, b, _, _, _, rfl, rfl, SqT.of hb, last_at ok.one, _, _, rfl, rfl, x, _, rfl, hx, ?_⟩
    rw [decide_eq_true (by omega)]
    refine ⟨_, rfl, iteF ?_⟩
    exact ⟨_, rfl, p, C, dx, _, _, rfl, hp, W.cl, W.nS, rfl, _, rfl, p, C, dx, _, _, rfl, hp, W.cl, W.nZ, rfl, _, rfl, sg, a, b, ss, ss.length, x, c, rfl, ha, hb, ok.ok, rfl, ok.one, hc, q⟩
def spPText (C : Addr) : Sp := fun vs H Q _ => ∃ (p : Addr) (sg : Str) (ss : List Stp), vs = [.ref p] ∧ ProgAt C H p sg ss ∧ okP sg ss ∧ Z ss (ss.length - 1) ≤ 4000 ∧ ∀ H', Same H H' → Q (.str (tx (L ss (ss.length - 1)))) H'
theorem scPText : FnScope ["self"] ["self"] (defScope sPText) := ⟨rfl, rfl, rfl, by decide +kernel, rfl, by decide +kernel, by decide +kernel⟩
theorem ok_ptext {f fM fA C CT f1 f2 f3 fTo fBe : Addr} {fd dM dA d1 d2 d3 dTo dBe : FuncData} (F : Fun K "text" "Program.text" sPText f fd) (T : Txt K mg) (W : WP K mg C) (Y : ToolT K mg CT f1 f2 f3 d1 d2 d3) (DM : Df K mg "check_most" sMost ["many", "limit"] fM dM) (DA : Df K mg "made_by" sMadeBy ["steps", "tool"] fA dA)
    (DT : Df K mg "steps_to" sStepsTo ["steps"] fTo dTo) (DB : Df K mg "steps_below" sBelow ["step"] fBe dBe) : FnOk P w K mg base CX0 4 f fd ["self"] (spPText C) := by
  have GM := ok_most (P := P) (w := w) (base := base) DM.F T
  have GA := ok_madeby (P := P) (w := w) (base := base) DA.F T Y DT DB
  refine F.ok scPText (fun vs H Q E h => ?_) (fun cdv A outer s H vs Q E hr h => ?_)
  · obtain ⟨p, sg, ss, rfl, _⟩ := h
    rfl
  · obtain ⟨p, sg, ss, rfl, ⟨dx, a, b, hp, ha, hb⟩, ok, hz, q⟩ := h
    have r1 : Room 1 _ := hr.mono (by decide)
    obtain ⟨t4, g4⟩ := T.mText
    refine ⟨_, pss_cons (ps_expr (pe_call GM r1 (by rfl) DM.m DM.F.kp DM.b .nil pass0 (pa_cons (pe_ix ix_tup (pe_fld (pv 0) rfl) (pe_un un_neg pe_int) (fun _ _ => rfl)) (pa_cons (pe_glob (v := .int 4000) (by rfl) g4 ⟨_, rfl⟩) pa_nil))))
      (pss_one (ps_ret (pe_call GA hr (by rfl) DA.m DA.F.kp DA.b .nil pass0 (pa_cons (pe_fld (pv 0) rfl) (pa_cons (Ow.pe_makeO Y.mo (by rfl) Y.mgC) pa_nil))))), ?_⟩
    refine ⟨_, rfl, p, C, dx, _, _, rfl, hp, W.cl, W.nZ, rfl, _, rfl, b, _, _, _, rfl, rfl, SqT.of hb, last_at ok.one, Z ss (ss.length - 1), 4000, rfl, hz, ?_⟩
    refine ⟨_, rfl, p, C, dx, _, _, rfl, hp, W.cl, W.nS, rfl, fun x dy nx ndy ney => ?_⟩
    have sX : Same H (upd (upd H dy (.own x)) x (.ins CT dy [])) := fun b o e => by
      rw [upd_ne (ne_of_none e nx), upd_ne (ne_of_none e ndy)]
      exact e
    exact ⟨a, x, dy, ss, ss.length, rfl, ha.keep (.same sX), ok.ok.good, rfl, ok.one, by have := ok.few; omega, upd_same, hz, fun H' s => q H' (sX.trans s)⟩
/-! ### put together -/
theorem RowS.app {H : Hp} {ps qs : List Addr} {ss tt : List Stp} (h : StpsAt H ps ss) (k : StpsAt H qs tt) : StpsAt H (ps ++ qs) (ss ++ tt) := each_app h k
def spPPower (C : Addr) : Sp := fun vs H Q _ => ∃ (p : Addr) (sg : Str) (ss : List Stp) (k : Nat), vs = [.ref p, .int (k : Int)] ∧ ProgAt C H p sg ss ∧ Signs sg ∧ 1 ≤ ss.length ∧ k ≤ 10 ^ 100 ∧ ss.length ≤ 1000 ∧ okP sg (ss ++ [.pow (ss.length - 1) k]) ∧ ∀ x H', Same H H' → ProgAt C H' x sg (ss ++ [.pow (ss.length - 1) k]) → Q (.ref x) H'
theorem scPPower : FnScope ["self", "number"] ["self", "number"] (defScope sPPower) := ⟨rfl, rfl, rfl, by decide +kernel, rfl, by decide +kernel, by decide +kernel⟩
theorem ok_ppower {f fW fB fI C : Addr} {fd dW dB dI : FuncData} (F : Fun K "power" "Program.power" sPPower f fd) (T : Txt K mg) (W : WP K mg C) (DI : Df K mg "is_integer" sInt ["value"] fI dI) (DB : Df K mg "check_between" sBetween ["value", "least", "most"] fB dB)
    (GW : FnOk P w K mg base CX0 9 fW dW ["self", "steps"] (spWith C)) (bW : Binds K dW ["self", "steps"] []) (mW : Meth K C "_with" fW) : FnOk P w K mg base CX0 10 f fd ["self", "number"] (spPPower C) := by
  have GB := ok_between (P := P) (w := w) (base := base) DB.F T DI
  refine F.ok scPPower (fun vs H Q E h => ?_) (fun cdv A outer s H vs Q E hr h => ?_)
  · obtain ⟨p, sg, ss, k, rfl, _⟩ := h
    rfl
  · obtain ⟨p, sg, ss, k, rfl, hP, hsg, h1, hk, hl, ok, q⟩ := h
    obtain ⟨dx, a, b, hp, ⟨ps, ea, hps⟩, hb⟩ := id hP
    have r2 : Room 2 _ := hr.mono (by decide)
    obtain ⟨tn, gn⟩ := T.mNum
    refine ⟨_, pss_cons (ps_expr (pe_call GB r2 (by rfl) DB.m DB.F.kp DB.b .nil pass0 (pa_cons (pv 1) (pa_cons pe_int (pa_cons (pe_glob (v := .int (10 ^ 100)) rfl gn ⟨_, rfl⟩) pa_nil)))))
      (pss_one (ps_ret (pe_meth (pv 0) W.cl mW GW hr bW .nil pass0 (pa_cons (pe_op op_catA (pe_fld (pv 0) rfl) (pe_tup (pa_cons (pe_tup (pa_cons pe_str (pa_cons (pe_op op_sub (pe_callB call_len_seq (by rfl) T.len PySem.boot_len (pa_cons (pe_fld (pv 0) rfl) pa_nil)) pe_int) (pa_cons (pv 1) pa_nil)))) pa_nil))) pa_nil)))), ?_⟩
    have lps := steps_len hps
    have lm : (ps.map V.ref).length = ss.length := by rw [List.length_map, lps]
    refine ⟨_, rfl, k, 0, 10 ^ 100, ?_, Nat.zero_le _, hk, Nat.lt_of_le_of_lt hk (by decide +kernel), ?_⟩
    · have : ((10 ^ 100 : Nat) : Int) = 10 ^ 100 := by norm_cast
      rw [this]
      rfl
    refine ⟨_, rfl, p, dx, _, rfl, hp, rfl, _, rfl, p, C, dx, _, _, rfl, hp, W.cl, W.nS, rfl, _, rfl, p, C, dx, _, _, rfl, hp, W.cl, W.nS, rfl, a, _, rfl, .inr (SqT.of ea), _, _, rfl, rfl, _, rfl, (by show 3 ≤ sizeLine; decide), fun p1 n1 => ⟨(by show 1 ≤ sizeLine; decide), fun p2 n2 => ?_⟩⟩
    have s1 := same_upd (o := .tup [V.str "power", V.int (((ps.map V.ref).length : Nat) - (1 : Int)), V.int (k : Int)]) n1
    have s2 := same_upd (o := .tup [V.ref p1]) n2
    have s12 := s1.trans s2
    have e1 : StpAt (upd (upd H p1 (.tup [V.str "power", V.int (((ps.map V.ref).length : Nat) - (1 : Int)), V.int (k : Int)])) p2 (.tup [V.ref p1])) p1 (.pow (ss.length - 1) k) := by
      have ec : V.int (((ps.map V.ref).length : Nat) - (1 : Int)) = V.int ((ss.length - 1 : Nat) : Int) := congrArg V.int (by rw [lm]; omega)
      show _ = some (HO.tup [V.str "power", V.int ((ss.length - 1 : Nat) : Int), V.int (k : Int)])
      rw [← ec]
      exact s2 _ _ upd_same
    have e2 : (upd (upd H p1 (.tup [V.str "power", V.int (((ps.map V.ref).length : Nat) - (1 : Int)), V.int (k : Int)])) p2 (.tup [V.ref p1])) p2 = some (.tup [V.ref p1]) := upd_same
    have n0 : ps.map V.ref ≠ [] := fun z => by
      rw [z] at lm
      have : (0 : Nat) = ss.length := lm
      omega
    show rCatA K (V.ref a) (V.ref p2) (upd (upd H p1 (.tup [V.str "power", V.int (((ps.map V.ref).length : Nat) - (1 : Int)), V.int (k : Int)])) p2 (.tup [V.ref p1])) _
    generalize upd (upd H p1 (.tup [V.str "power", V.int (((ps.map V.ref).length : Nat) - (1 : Int)), V.int (k : Int)])) p2 (.tup [V.ref p1]) = H2 at s12 e1 e2 ⊢
    refine ⟨a, p2, ps.map V.ref, [V.ref p1], rfl, rfl, SqT.of (s12 _ _ ea), SqT.of e2, ?_, fun z => absurd z n0, (fun _ z => by cases z), fun _ _ r nr => ?_⟩
    · rw [lm]
      exact Nat.le_trans (show ss.length + 1 ≤ 1001 by omega) (by decide)
    have s3 := same_upd (o := .tup (ps.map V.ref ++ [V.ref p1])) nr
    refine ⟨p, r, sg, _, ss, rfl, hP.same (s12.trans s3), hsg, ⟨ps ++ [p1], by rw [upd_same, List.map_append]; rfl, RowS.app (hps.keep (.same (s12.trans s3))) (.cons (s3 _ _ e1) .nil)⟩, ok, fun x H' s h => q x H' ((s12.trans s3).trans s) h⟩
end
end K58

set_option Elab.async false
set_option linter.all false
set_option maxRecDepth 100000
set_option maxHeartbeats 3200000
namespace K58
open PySem L2 Tx Tg Tm Sm
section
variable {P : Program} {w : World} {K : PySem.W.Frag} {mg : Str → Option Value} {base : Heap}
/-- two programs, one behind the other -/
def joined (ss tt : List Stp) : List Stp := ss ++ tt.map (shift ss.length) ++ [.join (ss.length - 1) (ss.length + tt.length - 1)]
abbrev nAdd : List Str := ["self", "other", "many", "join"]
def spPAdd (C : Addr) : Sp := fun vs H Q _ => ∃ (p o : Addr) (sg : Str) (ss tt : List Stp), vs = [.ref p, .ref o] ∧ ProgAt C H p sg ss ∧ ProgAt C H o sg tt ∧ Signs sg ∧ 1 ≤ ss.length ∧ 1 ≤ tt.length ∧ ss.length ≤ 100 ∧ tt.length ≤ 100 ∧ okP sg (joined ss tt) ∧ ∀ x H', Same H H' → ProgAt C H' x sg (joined ss tt) → Q (.ref x) H'
theorem scPAdd : FnScope nAdd ["self", "other"] (defScope sPAdd) := ⟨rfl, rfl, rfl, by decide +kernel, rfl, by decide +kernel, by decide +kernel⟩
theorem ok_padd {f fW fS C : Addr} {fd dW dS : FuncData} (F : Fun K "__add__" "Program.__add__" sPAdd f fd) (T : Txt K mg) (W : WP K mg C) (DS : Df K mg "shifted_steps" sShifted ["steps", "many"] fS dS)
    (GW : FnOk P w K mg base CX0 9 fW dW ["self", "steps"] (spWith C)) (bW : Binds K dW ["self", "steps"] []) (mW : Meth K C "_with" fW) : FnOk P w K mg base CX0 10 f fd ["self", "other"] (spPAdd C) := by
  have GS := ok_shift (P := P) (w := w) (base := base) DS.F T
  refine F.ok scPAdd (fun vs H Q E h => ?_) (fun cdv A outer s H vs Q E hr h => ?_)
  · obtain ⟨p, o, sg, ss, tt, rfl, _⟩ := h
    rfl
  · obtain ⟨p, o, sg, ss, tt, rfl, hP, hO, hsg, h1, h2, l1, l2, ok, q⟩ := h
    obtain ⟨dx, a, b, hp, ha, hb⟩ := id hP
    obtain ⟨dy, a', b', ho, ha', hb'⟩ := id hO
    have r1 : Room 1 _ := hr.mono (by decide)
    refine ⟨_, pss_cons (ps_if (PW.pt (pw_or (pt_not (pt_val (pe_callB call_isi (by rfl) T.isi (by decide +kernel) (pa_cons (pv 1) (pa_cons (pe_glob (v := .ref C) (by rfl) W.gP rfl) pa_nil)))))
        (pw_or1 (pt_cmpR op_ne (pe_fld (pv 1) rfl) (pe_fld (pv 0) rfl) (nomark _))))) (pss_one ps_never) pss_nil)
      (pss_cons (ps_set (i := 2) scPAdd.nd rfl (Or.inl rfl) (pe_callB call_len_seq (by rfl) T.len PySem.boot_len (pa_cons (pe_fld (pv 0) rfl) pa_nil)))
      (pss_cons (ps_set (i := 3) scPAdd.nd rfl (Or.inl rfl) (pe_tup (pa_cons pe_str (pa_cons (pe_op op_sub (pv 2) pe_int) (pa_cons (pe_op op_sub (pe_op op_add (pv 2) (pe_callB call_len_seq (by rfl) T.len PySem.boot_len (pa_cons (pe_fld (pv 1) rfl) pa_nil))) pe_int) pa_nil)))))
      (pss_one (ps_ret (pe_meth (pv 0) W.cl mW GW hr bW .nil pass0 (pa_cons (pe_op op_catA (pe_op op_catA (pe_fld (pv 0) rfl) (pe_call GS r1 (by rfl) DS.m DS.F.kp DS.b .nil pass0 (pa_cons (pe_fld (pv 1) rfl) (pa_cons (pv 2) pa_nil)))) (pe_tup (pa_cons (pv 3) pa_nil))) pa_nil)))))), ?_⟩
    obtain ⟨ps, ea, hps⟩ := id ha
    obtain ⟨qs, ea', hqs⟩ := id ha'
    have lps := steps_len hps
    have lqs := steps_len hqs
    have lm : (ps.map V.ref).length = ss.length := by rw [List.length_map, lps]
    have lm' : (qs.map V.ref).length = tt.length := by rw [List.length_map, lqs]
    refine ⟨_, rfl, _, _, _, _, _, rfl, .own C, W.tyP _ _ _ _ ho, W.iPP, true, rfl, iteF ?_⟩
    refine ⟨_, rfl, o, C, dy, _, _, rfl, ho, W.cl, W.nL, rfl, _, rfl, p, C, dx, _, _, rfl, hp, W.cl, W.nL, rfl, rfl, _, rfl, ?_⟩
    rw [decide_eq_true rfl]
    refine iteF ?_
    refine ⟨_, rfl, p, C, dx, _, _, rfl, hp, W.cl, W.nS, rfl, a, _, rfl, .inr (SqT.of ea), ?_⟩
    rw [lm]
    refine ⟨_, rfl, _, _, rfl, rfl, _, rfl, _, rfl, o, C, dy, _, _, rfl, ho, W.cl, W.nS, rfl, a', _, rfl, .inr (SqT.of ea'), _, _, rfl, rfl, _, _, rfl, rfl, (by show 3 ≤ sizeLine; decide), fun p1 n1 => ?_⟩
    have ec1 : V.int (((ss.length : Nat) : Int) - 1) = V.int ((ss.length - 1 : Nat) : Int) := congrArg V.int (by omega)
    have ec2 : V.int (((ss.length : Nat) : Int) + (((qs.map V.ref).length : Nat) : Int) - 1) = V.int ((ss.length + tt.length - 1 : Nat) : Int) := congrArg V.int (by rw [lm']; omega)
    have s1 := same_upd (o := .tup [V.str "join", V.int (((ss.length : Nat) : Int) - 1), V.int (((ss.length : Nat) : Int) + (((qs.map V.ref).length : Nat) : Int) - 1)]) n1
    have e1 : StpAt (upd H p1 (.tup [V.str "join", V.int (((ss.length : Nat) : Int) - 1), V.int (((ss.length : Nat) : Int) + (((qs.map V.ref).length : Nat) : Int) - 1)])) p1 (.join (ss.length - 1) (ss.length + tt.length - 1)) := by
      show _ = some (HO.tup [V.str "join", V.int ((ss.length - 1 : Nat) : Int), V.int ((ss.length + tt.length - 1 : Nat) : Int)])
      rw [← ec1, ← ec2]
      exact upd_same
    dsimp only [gName, tRet]
    generalize upd H p1 (.tup [V.str "join", V.int (((ss.length : Nat) : Int) - 1), V.int (((ss.length : Nat) : Int) + (((qs.map V.ref).length : Nat) : Int) - 1)]) = H1 at s1 e1 ⊢
    have n0 : ps.map V.ref ≠ [] := fun z => by
      rw [z] at lm
      have : (0 : Nat) = ss.length := lm
      omega
    refine ⟨_, rfl, p, dx, _, rfl, s1 _ _ hp, rfl, _, rfl, p, C, dx, _, _, rfl, s1 _ _ hp, W.cl, W.nS, rfl, _, rfl, o, C, dy, _, _, rfl, s1 _ _ ho, W.cl, W.nS, rfl, _, rfl, a', tt, ss.length, rfl, ha'.keep (.same s1), by omega, fun p2 H2 s2 h2 => ?_⟩
    obtain ⟨rs, e2, hrs⟩ := h2
    have lrs := steps_len hrs
    rw [List.length_map] at lrs
    have s12 := s1.trans s2
    have m0 : rs.map V.ref ≠ [] := fun z => by
      have := congrArg List.length z
      rw [List.length_map] at this
      have : rs.length = 0 := this
      omega
    refine ⟨a, p2, ps.map V.ref, rs.map V.ref, rfl, rfl, SqT.of (s12 _ _ ea), SqT.of e2, ?_, fun z => absurd z n0, fun _ z => absurd z m0, fun _ _ p3 n3 => ?_⟩
    · rw [lm, List.length_map, lrs]
      exact Nat.le_trans (show ss.length + tt.length ≤ 200 by omega) (by decide)
    have s3 := same_upd (o := .tup (ps.map V.ref ++ rs.map V.ref)) n3
    have e3 : (upd H2 p3 (.tup (ps.map V.ref ++ rs.map V.ref))) p3 = some (.tup (ps.map V.ref ++ rs.map V.ref)) := upd_same
    have s13 := s12.trans s3
    have hrs3 := hrs.keep (.same s3)
    have e13 : StpAt (upd H2 p3 (.tup (ps.map V.ref ++ rs.map V.ref))) p1 _ := s3 _ _ (s2 _ _ e1)
    generalize upd H2 p3 (.tup (ps.map V.ref ++ rs.map V.ref)) = H3 at s13 e3 hrs3 e13 ⊢
    refine ⟨_, rfl, (by show 1 ≤ sizeLine; decide), fun p4 n4 => ?_⟩
    have s4 := same_upd (o := .tup [V.ref p1]) n4
    have e4 : (upd H3 p4 (.tup [V.ref p1])) p4 = some (.tup [V.ref p1]) := upd_same
    have s14 := s13.trans s4
    have hrs4 := hrs3.keep (.same s4)
    have e14 : StpAt (upd H3 p4 (.tup [V.ref p1])) p1 _ := s4 _ _ e13
    have e34 := s4 _ _ e3
    generalize upd H3 p4 (.tup [V.ref p1]) = H4 at s14 e4 hrs4 e14 e34 ⊢
    refine ⟨p3, p4, ps.map V.ref ++ rs.map V.ref, [V.ref p1], rfl, rfl, SqT.of e34, SqT.of e4, ?_, fun z => absurd (List.append_eq_nil_iff.mp z).1 n0, (fun _ z => by cases z), fun _ _ r nr => ?_⟩
    · rw [List.length_append, lm, List.length_map, lrs]
      exact Nat.le_trans (show ss.length + tt.length + 1 ≤ 201 by omega) (by decide)
    have s5 := same_upd (o := .tup (ps.map V.ref ++ rs.map V.ref ++ [V.ref p1])) nr
    have s15 := s14.trans s5
    refine ⟨p, r, sg, _, ss, rfl, hP.same s15, hsg, ⟨ps ++ rs ++ [p1], by rw [upd_same, List.map_append, List.map_append]; rfl, RowS.app (RowS.app (hps.keep (.same s15)) (hrs4.keep (.same s5))) (.cons (s5 _ _ e14) .nil)⟩, ok, fun x H' s h => q x H' (s15.trans s) h⟩
end
end K58

set_option Elab.async false
set_option linter.all false
set_option maxRecDepth 100000
set_option maxHeartbeats 3200000
namespace K58
open PySem L2 Tx Tg Tm Sm
theorem cds_join : ∀ l : List Str, cds (Txt.join "" l) = (l.map cds).flatten := by
  intro l
  rw [show Txt.join "" l = Str.join "" l from TL.join_eq _ _]
  have e0 : cds ("" : Str) = [] := by decide +kernel
  induction l with
  | nil => exact e0
  | cons x l ih =>
    cases l with
    | nil =>
      show cds x = cds x ++ []
      rw [List.append_nil]
    | cons y r =>
      show cds (x ++ ("" : Str) ++ Str.join "" (y :: r)) = cds x ++ ((y :: r).map cds).flatten
      rw [cds_app, cds_app, e0, List.append_nil, ih]
theorem join_ones : ∀ l : List Nat, cds (Txt.join "" (l.map one)) = l := fun l => by
  rw [cds_join, List.map_map]
  induction l with
  | nil => rfl
  | cons c l ih =>
    show [c] ++ (l.map (cds ∘ one)).flatten = c :: l
    rw [ih]
    rfl
theorem sum_ones (l : List Nat) : ((l.map one).map (·.length)).sum = l.length := by
  rw [List.map_map]
  induction l with
  | nil => rfl
  | cons c l ih =>
    show 1 + (l.map _).sum = l.length + 1
    rw [ih]
    omega
theorem sm {m : Int} (h0 : 0 ≤ m) (h : m ≤ 10 ^ 2000) : m.natAbs < 2 ^ 9000 := by
  have h1 : (10 : Int) ^ 2000 = ((10 ^ 2000 : Nat) : Int) := by norm_cast
  rw [h1] at h
  have h2 : m.natAbs ≤ 10 ^ 2000 := by
    generalize (10 ^ 2000 : Nat) = M at h ⊢
    omega
  refine Nat.lt_of_le_of_lt h2 ?_
  exact Nat.lt_of_lt_of_le (by decide +kernel : (10 ^ 2000 : Nat) < 2 ^ 6644 + 2 ^ 6645) (by decide +kernel)
section
variable {P : Program} {w : World} {K : PySem.W.Frag} {mg : Str → Option Value} {base : Heap}
abbrev nLine : List Str := ["_law_cup_here", "_law_signs_here", "_law_most", "_law_turn"]
def spLine : Sp := fun vs H Q _ => ∃ (c : Addr) (sg : Str) (m : Nat), vs = [.ref c, .str sg, .int (m : Int)] ∧ Cup H c ∧ Signs sg ∧ m ≤ 20 ∧ ∀ z H', Over sg z → z.length ≤ m → Cup H' c → But c H H' → Q (.str z) H'
theorem scLine : FnScope nLine ["_law_cup_here", "_law_signs_here", "_law_most"] (defScope sLine) := ⟨rfl, rfl, rfl, by decide +kernel, rfl, by decide +kernel, by decide +kernel⟩
theorem small9000 {m : Int} (h0 : 0 ≤ m) (h : m ≤ 100) : m.natAbs < 2 ^ 9000 := Nat.lt_of_lt_of_le (show m.natAbs < 2 ^ 7 by omega) (Nat.pow_le_pow_right (by decide) (by decide))
theorem ok_line {f fB fP : Addr} {fd dB dP : FuncData} (F : Fun K "_law_line" "_law_line" sLine f fd) (T : Txt K mg) (DB : Df K mg "_law_bit" sBit ["_law_cup_here", "_law_much"] fB dB) (DP : Df K mg "_law_pick" sPick ["_law_cup_here", "_law_items"] fP dP) :
    FnOk P w K mg base CX0 3 f fd ["_law_cup_here", "_law_signs_here", "_law_most"] spLine := by
  have GB := ok_bit (P := P) (w := w) (base := base) DB.F T
  have GP := ok_pick (P := P) (w := w) (base := base) DP.F T DB
  refine F.ok scLine (fun vs H Q E h => ?_) (fun cdv A outer s H vs Q E hr h => ?_)
  · obtain ⟨c, sg, m, rfl, _⟩ := h
    rfl
  · obtain ⟨c, sg, m, rfl, hc, hsg, hm, q⟩ := h
    have r1 : Room 1 _ := hr.mono (by decide)
    refine ⟨_, pss_one (ps_ret (pe_join pe_str (pe_lc (own := [("_law_turn", 3)]) (g := gName 3) (tt := tYes) rfl scLine.nd
      (pi_range1 rfl T.range (pa_cons (pe_call GB r1 (by rfl) DB.m DB.F.kp DB.b .nil pass0 (pa_cons (pv 0) (pa_cons (pe_op op_add (pv 2) pe_int) pa_nil))) pa_nil))
      (blkOk_by (own := [("_law_turn", 3)]) (N := nLine) (sc := defScope sLine) (by decide +kernel))
      (fun _ _ _ _ _ => pg_name (i := 3) scLine.nd rfl (Or.inl rfl)) (fun _ _ _ _ _ => pts_nil)
      (fun _ _ _ _ _ => pe_call GP hr (by rfl) DP.m DP.F.kp DP.b .nil pass0 (pa_cons (pv 0) (pa_cons (pv 1) pa_nil)))))), ?_⟩
    obtain ⟨l0, l1⟩ := sg_len hsg
    refine ⟨⟨_, rfl⟩, _, rfl, _, rfl, _, _, rfl, rfl, c, (m : Int) + 1, rfl, hc, by omega, small9000 (by omega) (by omega), fun r H1 r0 rm hc1 b1 => ?_⟩
    obtain ⟨k, rfl⟩ : ∃ k : Nat, r = (k : Int) := ⟨r.toNat, by omega⟩
    refine ⟨_, rfl, by omega, by omega, fun D hD => ?_⟩
    have nDc : D ≠ c := hc1.ne hD
    rw [Int.toNat_natCast]
    refine lc_range (lo := 0) (n := k) (fun i H2 => Cup H2 c ∧ But c H1 H2 ∧ ∃ cs : List Nat, H2 D = some (.lst ((cs.map one).map V.str)) ∧ cs.length = i ∧ ∀ d ∈ cs, d ∈ cds sg)
      ⟨hc1.same (same_upd hD), But.of (same_upd hD), [], upd_same, rfl, fun d hd => by cases hd⟩ ?_ ?_
    · rintro i H2 hi ⟨hc2, b2, cs, e2, hl, hv⟩
      refine ⟨rfl, iteT (B := False) ?_⟩
      refine ⟨_, rfl, _, rfl, c, hc2, .inr ⟨sg, rfl, l0, by omega, fun d H3 hd hc3 b3 => ?_⟩⟩
      have e3 := b3 _ _ nDc e2
      refine ⟨_, e3, ?_, ?_, ?_, cs ++ [d], ?_, by rw [List.length_append, hl]; rfl, ?_⟩
      · rw [List.length_map, List.length_map, hl]
        exact Nat.lt_of_lt_of_le (show i < 30 by omega) (by decide)
      · obtain ⟨c0, c1, c2, ec⟩ := hc3
        exact ⟨c0, c1, c2, by rw [upd_ne nDc.symm]; exact ec⟩
      · intro b o n' e
        rw [upd_ne (ne_of_none e hD)]
        exact b3 _ _ n' (b2 _ _ n' e)
      · rw [upd_same, List.map_append, List.map_append]
        rfl
      · intro x hx
        rcases List.mem_append.mp hx with hx | hx
        · exact hv x hx
        · rw [List.mem_singleton.mp hx]
          exact hd
    · rintro H2 ⟨hc2, b2, cs, e2, hl, hv⟩
      refine ⟨"", D, _, rfl, rfl, .inl (SqL.of e2), ?_, ?_⟩
      · rw [sum_ones]
        show _ + _ * 0 ≤ _
        exact Nat.le_trans (show _ ≤ 30 by omega) (by decide)
      · refine q _ H2 (fun d hd => ?_) ?_ hc2 (b1.trans b2)
        · rw [join_ones] at hd
          exact hv d hd
        · rw [← cds_len, join_ones]
          omega
/-! ### drawn steps -/
def dStp (B : Nat) : Stp → Prop
  | .txt z => z.length ≤ 4
  | .join _ _ => True
  | .pow _ k => k ≤ B
structure Drawn (sg : Str) (B : Nat) (ss : List Stp) : Prop where
  ok : okStps sg ss
  dr : ∀ s ∈ ss, dStp B s
theorem okStps.snoc {sg : Str} {ss : List Stp} {s : Stp} (h : okStps sg ss) (k : okStp sg ss.length s) : okStps sg (ss ++ [s]) := fun i t e => by
  by_cases hi : i < ss.length
  · rw [List.getElem?_append_left hi] at e
    exact h i t e
  · have hl := (List.getElem?_eq_some_iff.mp e).1
    rw [List.length_append, List.length_singleton] at hl
    have hi2 : i = ss.length := by omega
    subst hi2
    rw [List.getElem?_append_right (Nat.le_refl _), Nat.sub_self] at e
    cases e
    exact k
theorem Drawn.snoc {sg : Str} {B : Nat} {ss : List Stp} {s : Stp} (h : Drawn sg B ss) (k : okStp sg ss.length s) (d : dStp B s) : Drawn sg B (ss ++ [s]) := ⟨h.ok.snoc k, fun t ht => by
  rcases List.mem_append.mp ht with ht | ht
  · exact h.dr t ht
  · rw [List.mem_singleton.mp ht]
    exact d⟩
theorem Drawn.one {sg z : Str} {B : Nat} (v : Over sg z) (hl : z.length ≤ 4) : Drawn sg B [.txt z] where
  ok := fun i s h => by
    cases i with
    | zero =>
      cases h
      exact ⟨v, by omega⟩
    | succ i => cases h
  dr := fun t ht => by
    rw [List.mem_singleton.mp ht]
    exact hl
/-- sizes grow by no more than B a step -/
theorem Drawn.grow {sg : Str} {B : Nat} {ss : List Stp} (h : Drawn sg B ss) (hB : 2 ≤ B) : ∀ i, i < ss.length → Z ss i ≤ 4 * B ^ i := by
  intro i
  induction i using Nat.strongRecOn with
  | _ i ih =>
    intro hi
    have hs := List.getElem?_eq_getElem hi
    have ez := Z_at h.ok.good hs
    have ok := h.ok i _ hs
    have dr := h.dr _ (List.getElem_mem hi)
    rw [ez]
    generalize ss[i] = s at hs ez ok dr ⊢
    have one : 1 ≤ B ^ i := Nat.one_le_pow _ _ (by omega)
    have up : ∀ j, j < i → B * (4 * B ^ j) ≤ 4 * B ^ i := fun j hj => by
      have e : B ^ (j + 1) ≤ B ^ i := Nat.pow_le_pow_right (by omega) hj
      rw [Nat.pow_succ] at e
      calc B * (4 * B ^ j) = 4 * (B ^ j * B) := by rw [Nat.mul_left_comm, Nat.mul_comm B]
        _ ≤ 4 * B ^ i := Nat.mul_le_mul_left _ e
    cases s with
    | txt z =>
      have : z.length ≤ 4 := dr
      show z.length ≤ 4 * B ^ i
      omega
    | join a b =>
      have h1 := ih a ok.1 (by have := ok.1; omega)
      have h2 := ih b ok.2 (by have := ok.2; omega)
      show Z ss a + Z ss b ≤ 4 * B ^ i
      have hm : max a b < i := Nat.max_lt.mpr ⟨ok.1, ok.2⟩
      have h3 : B ^ a ≤ B ^ max a b := Nat.pow_le_pow_right (by omega) (Nat.le_max_left _ _)
      have h4 : B ^ b ≤ B ^ max a b := Nat.pow_le_pow_right (by omega) (Nat.le_max_right _ _)
      have h5 := up (max a b) hm
      have h6 : 2 * (4 * B ^ max a b) ≤ B * (4 * B ^ max a b) := Nat.mul_le_mul_right _ hB
      omega
    | pow a k =>
      have h1 := ih a ok.1 (by have := ok.1; omega)
      show Z ss a * k ≤ 4 * B ^ i
      have hk : k ≤ B := dr
      calc Z ss a * k ≤ (4 * B ^ a) * B := Nat.mul_le_mul h1 hk
        _ = B * (4 * B ^ a) := Nat.mul_comm _ _
        _ ≤ 4 * B ^ i := up a ok.1
abbrev nSmall : List Str := ["_law_cup_here", "_law_signs_here", "_law_many", "_law_found", "_law_turn", "_law_lot", "_law_one", "_law_two"]
def spDrawn (B lim : Nat) : Sp := fun vs H Q _ => ∃ (c : Addr) (sg : Str) (m : Nat), vs = [.ref c, .str sg, .int (m : Int)] ∧ Cup H c ∧ Signs sg ∧ 1 ≤ m ∧ m ≤ 20 ∧ ∀ p ss H', LstS H' p ss → Drawn sg B ss → 1 ≤ ss.length → ss.length ≤ m + lim → Cup H' c → But c H H' → Q (.ref p) H'
theorem scSmall : FnScope nSmall ["_law_cup_here", "_law_signs_here", "_law_many"] (defScope sSmall) := ⟨rfl, rfl, rfl, by decide +kernel, rfl, by decide +kernel, by decide +kernel⟩
theorem LstS.add {H : Hp} {D q : Addr} {ss : List Stp} {s : Stp} {ps : List Addr} (e : H D = some (.lst (ps.map V.ref))) (h : StpsAt H ps ss) (k : StpAt H q s) : LstS (upd H D (.lst (ps.map V.ref ++ [V.ref q]))) D (ss ++ [s]) :=
  ⟨ps ++ [q], by rw [upd_same, List.map_append]; rfl, each_snoc (h.keep (.upd (.lst e))) (KeepT.upd (.lst e) _ _ k)⟩
end
end K58

set_option Elab.async false
set_option linter.all false
set_option maxRecDepth 100000
set_option maxHeartbeats 3200000
namespace K58
open PySem L2 Tx Tg Tm Sm
section
variable {P : Program} {w : World} {K : PySem.W.Frag} {mg : Str → Option Value} {base : Heap}
theorem LstS.but {c : Addr} {H H' : Hp} {D : Addr} {ss : List Stp} (hc : Cup H c) (n : D ≠ c) (b : But c H H') (h : LstS H D ss) : LstS H' D ss := h.keep (KeepT.but hc.noT b) fun _ e => b _ _ n e
theorem Cup.put {H : Hp} {c D : Addr} {o : HO} (h : Cup H c) (n : D ≠ c) : Cup (upd H D o) c := by
  obtain ⟨c0, c1, c2, ec⟩ := h
  exact ⟨c0, c1, c2, by rw [upd_ne n.symm]; exact ec⟩
theorem But.putN {c D : Addr} {H H' : Hp} {o : HO} (b : But c H H') (n : H D = none) : But c H (upd H' D o) := fun x u nx e => by
  rw [upd_ne (ne_of_none e n)]
  exact b _ _ nx e
theorem ok_small {f fB fP fL : Addr} {fd dB dP dL : FuncData} (F : Fun K "_law_small_steps" "_law_small_steps" sSmall f fd) (T : Txt K mg) (DB : Df K mg "_law_bit" sBit ["_law_cup_here", "_law_much"] fB dB) (DP : Df K mg "_law_pick" sPick ["_law_cup_here", "_law_items"] fP dP)
    (DL : Df K mg "_law_line" sLine ["_law_cup_here", "_law_signs_here", "_law_most"] fL dL) : FnOk P w K mg base CX0 4 f fd ["_law_cup_here", "_law_signs_here", "_law_many"] (spDrawn 3 0) := by
  have GB := ok_bit (P := P) (w := w) (base := base) DB.F T
  have GL := ok_line (P := P) (w := w) (base := base) DL.F T DB DP
  refine F.ok scSmall (fun vs H Q E h => ?_) (fun cdv A outer s H vs Q E hr h => ?_)
  · obtain ⟨c, sg, m, rfl, _⟩ := h
    rfl
  · obtain ⟨c, sg, m, rfl, hc, hsg, m1, m20, q⟩ := h
    have r1 : Room 1 _ := hr.mono (by decide)
    refine ⟨_, pss_cons (ps_set (i := 3) scSmall.nd rfl (Or.inl rfl) (pe_lst (pa_cons (pe_tup (pa_cons pe_str (pa_cons (pe_call GL hr (by rfl) DL.m DL.F.kp DL.b .nil pass0 (pa_cons (pv 0) (pa_cons (pv 1) (pa_cons pe_int pa_nil)))) pa_nil))) pa_nil)))
      (pss_cons (ps_for PassesOwn.never rfl (pi_range1 rfl T.range (pa_cons (pe_call GB r1 (by rfl) DB.m DB.F.kp DB.b .nil pass0 (pa_cons (pv 0) (pa_cons (pv 2) pa_nil))) pa_nil)) (pg_name (i := 4) scSmall.nd rfl (Or.inl rfl))
        (pss_cons (ps_par3 (i := 5) (j := 6) (l := 7) (by rfl) scSmall.nd rfl rfl rfl (by decide) (by decide) (by decide) rfl rfl rfl (pa_cons (pe_call GB r1 (by rfl) DB.m DB.F.kp DB.b .nil pass0 (pa_cons (pv 0) (pa_cons pe_int pa_nil))) (pa_cons (pe_call GB r1 (by rfl) DB.m DB.F.kp DB.b .nil pass0 (pa_cons (pv 0) (pa_cons (pe_callB call_len_seq (by rfl) T.len PySem.boot_len (pa_cons (pv 3) pa_nil)) pa_nil))) (pa_cons (pe_call GB r1 (by rfl) DB.m DB.F.kp DB.b .nil pass0 (pa_cons (pv 0) (pa_cons (pe_callB call_len_seq (by rfl) T.len PySem.boot_len (pa_cons (pv 3) pa_nil)) pa_nil))) pa_nil))) (by rfl))
        (pss_one (ps_if (pt_cmpR op_eq (pv 5) pe_int (nomark _)) (pss_one (ps_expr (pe_bm PySem.F.plainAttrs_list PySem.F.slot_list_append PySem.F.type_list_append mt_append (pv 3) (pa_cons (pe_tup (pa_cons pe_str (pa_cons (pe_call GL hr (by rfl) DL.m DL.F.kp DL.b .nil pass0 (pa_cons (pv 0) (pa_cons (pv 1) (pa_cons pe_int pa_nil)))) pa_nil))) pa_nil))))
          (pss_one (ps_expr (pe_bm PySem.F.plainAttrs_list PySem.F.slot_list_append PySem.F.type_list_append mt_append (pv 3) (pa_cons (pe_ifExp (pt_cmpR op_lt (pv 5) pe_int (nomark _)) (pe_tup (pa_cons pe_str (pa_cons (pv 6) (pa_cons (pv 7) pa_nil)))) (pe_tup (pa_cons pe_str (pa_cons (pv 6) (pa_cons (pe_call GB r1 (by rfl) DB.m DB.F.kp DB.b .nil pass0 (pa_cons (pv 0) (pa_cons pe_int pa_nil))) pa_nil))))) pa_nil))))))))
      (pss_one (ps_ret (pv 3)))), ?_⟩
    refine ⟨_, rfl, _, rfl, c, sg, 4, rfl, hc, hsg, by decide, fun z H1 hz hl hc1 b1 => ⟨(by show 2 ≤ sizeLine; decide), fun p1 n1 => ⟨(by show 1 ≤ sizeLine; decide), fun D nD => ?_⟩⟩⟩
    have s1 := same_upd (o := .tup [V.str "text", V.str z]) n1
    have e1 : StpAt (upd H1 p1 (.tup [V.str "text", V.str z])) p1 (.txt z) := upd_same
    have s2 := same_upd (o := .lst [V.ref p1]) nD
    have hD : LstS (upd (upd H1 p1 (.tup [V.str "text", V.str z])) D (.lst [V.ref p1])) D [.txt z] := ⟨[p1], upd_same, .cons (s2 _ _ e1) .nil⟩
    have hc2 := hc1.same (s1.trans s2)
    have nDc : D ≠ c := (hc1.same s1).ne nD
    have nD1 : H1 D = none := free_none s1 nD
    have b2 : But c H1 (upd (upd H1 p1 (.tup [V.str "text", V.str z])) D (.lst [V.ref p1])) := But.of (s1.trans s2)
    generalize upd (upd H1 p1 (.tup [V.str "text", V.str z])) D (.lst [V.ref p1]) = H2 at hD hc2 b2 ⊢
    have b02 := b1.trans b2
    have nD0 : H D = none := by
      cases hh : H D with
      | none => rfl
      | some o =>
        have := b1 _ _ nDc hh
        rw [nD1] at this
        cases this
    refine ⟨_, rfl, _, rfl, c, (m : Int), rfl, hc2, by omega, small9000 (by omega) (by omega), fun r H3 r0 rm hc3 b3 => ?_⟩
    obtain ⟨n, rfl⟩ : ∃ k : Nat, r = (k : Int) := ⟨r.toNat, by omega⟩
    refine ⟨_, rfl, by omega, by omega, ?_⟩
    rw [Int.toNat_natCast]
    refine for_range (n := n) (fun i σ H4 => ∃ (t4 t5 t6 t7 : Option V) (ss : List Stp), σ = [some (.ref c), some (.str sg), some (.int (m : Int)), some (.ref D), t4, t5, t6, t7] ∧ Cup H4 c ∧ But c H H4 ∧ LstS H4 D ss ∧ Drawn sg 3 ss ∧ ss.length = i + 1)
      ⟨none, none, none, none, _, rfl, hc3, b02.trans b3, hD.but hc2 nDc b3, Drawn.one hz hl, rfl⟩ ?_ ?_
    · rintro i σ H4 hi ⟨t4, t5, t6, t7, ss, rfl, hc4, b4, ⟨ps, e4, hps⟩, hd, hl4⟩
      have lps := steps_len hps
      have lm : (ps.map V.ref).length = ss.length := by rw [List.length_map, lps]
      refine ⟨_, rfl, c, 4, rfl, hc4, by decide, small9000 (by decide) (by decide), fun lot H5 l0 l4 hc5 b5 => ?_⟩
      have e5 := b5 _ _ nDc e4
      refine ⟨_, rfl, _, rfl, D, _, rfl, .inl (SqL.of e5), c, ((ps.map V.ref).length : Int), rfl, hc5, by rw [lm]; omega, small9000 (by omega) (by rw [lm]; omega), fun one H6 o0 o6 hc6 b6 => ?_⟩
      have e6 := b6 _ _ nDc e5
      refine ⟨_, rfl, _, rfl, D, _, rfl, .inl (SqL.of e6), c, ((ps.map V.ref).length : Int), rfl, hc6, by rw [lm]; omega, small9000 (by omega) (by rw [lm]; omega), fun two H7 u0 u7 hc7 b7 => ?_⟩
      have e7 := b7 _ _ nDc e6
      rw [lm] at o6 u7
      obtain ⟨one, rfl⟩ : ∃ k : Nat, one = (k : Int) := ⟨one.toNat, by omega⟩
      obtain ⟨two, rfl⟩ : ∃ k : Nat, two = (k : Int) := ⟨two.toNat, by omega⟩
      refine ⟨_, _, _, rfl, ?_⟩
      have e8 := e7
      have hc8 := hc7
      have b48 := (b5.trans b6).trans b7
      have hps8 := hps.keep (KeepT.but hc4.noT b48)
      clear e7
      have b08 := b4.trans b48
      have lenD : (ps.map V.ref).length < sizeLine := by
        rw [lm, hl4]
        exact Nat.lt_of_le_of_lt (show i + 1 ≤ 100 by omega) (by decide)
      refine ⟨_, rfl, rfl, _, rfl, ?_⟩
      by_cases h0 : lot = 0
      · rw [decide_eq_true (congrArg V.int h0)]
        refine iteT ?_
        refine ⟨_, rfl, .inl ⟨rfl, _, SqL.of e8⟩, _, rfl, _, rfl, c, sg, 3, rfl, hc8, hsg, by decide, fun z2 H9 hz2 hl2 hc9 b9 => ⟨(by show 2 ≤ sizeLine; decide), fun p2 n2 => ?_⟩⟩
        have s10 := same_upd (o := .tup [V.str "text", V.str z2]) n2
        have e10 := s10 _ _ (b9 _ _ nDc e8)
        have hps10 := hps8.keep ((KeepT.but hc8.noT b9).trans (KeepT.same s10))
        have q10 : StpAt (upd H9 p2 (.tup [V.str "text", V.str z2])) p2 (.txt z2) := upd_same
        exact ⟨D, _, _, rfl, rfl, e10, lenD, _, _, _, _, _, rfl, (hc9.same s10).put nDc, ((b08.trans b9).trans (But.of s10)).putN nD0, LstS.add e10 hps10 q10, hd.snoc ⟨hz2, by omega⟩ (show z2.length ≤ 4 by omega), by rw [List.length_append, hl4]; rfl⟩
      · rw [decide_eq_false (fun e => h0 (by injection e))]
        refine iteF ?_
        refine ⟨_, rfl, .inl ⟨rfl, _, SqL.of e8⟩, _, rfl, _, _, rfl, rfl, _, rfl, ?_⟩
        by_cases h3 : lot < 3
        · rw [decide_eq_true h3]
          refine iteT ?_
          refine ⟨_, rfl, _, rfl, (by show 3 ≤ sizeLine; decide), fun p2 n2 => ?_⟩
          have s10 := same_upd (o := .tup [V.str "join", V.int (one : Int), V.int (two : Int)]) n2
          have e10 := s10 _ _ e8
          have q10 : StpAt (upd H7 p2 (.tup [V.str "join", V.int (one : Int), V.int (two : Int)])) p2 (.join one two) := upd_same
          exact ⟨D, _, _, rfl, rfl, e10, lenD, _, _, _, _, _, rfl, (hc8.same s10).put nDc, (b08.trans (But.of s10)).putN nD0, LstS.add e10 (hps8.keep (.same s10)) q10, hd.snoc ⟨by omega, by omega⟩ trivial, by rw [List.length_append, hl4]; rfl⟩
        · rw [decide_eq_false h3]
          refine iteF ?_
          refine ⟨_, rfl, _, rfl, c, 4, rfl, hc8, by decide, small9000 (by decide) (by decide), fun k H9 k0 k4 hc9 b9 => ⟨(by show 3 ≤ sizeLine; decide), fun p2 n2 => ?_⟩⟩
          obtain ⟨k, rfl⟩ : ∃ j : Nat, k = (j : Int) := ⟨k.toNat, by omega⟩
          have s10 := same_upd (o := .tup [V.str "power", V.int (one : Int), V.int (k : Int)]) n2
          have e10 := s10 _ _ (b9 _ _ nDc e8)
          have hps10 := hps8.keep ((KeepT.but hc8.noT b9).trans (KeepT.same s10))
          have q10 : StpAt (upd H9 p2 (.tup [V.str "power", V.int (one : Int), V.int (k : Int)])) p2 (.pow one k) := upd_same
          have k3 : k ≤ 3 := by omega
          exact ⟨D, _, _, rfl, rfl, e10, lenD, _, _, _, _, _, rfl, (hc9.same s10).put nDc, ((b08.trans b9).trans (But.of s10)).putN nD0, LstS.add e10 hps10 q10, hd.snoc ⟨by omega, Nat.le_trans k3 (by decide +kernel)⟩ k3, by rw [List.length_append, hl4]; rfl⟩
    · rintro σ H4 ⟨t4, t5, t6, t7, ss, rfl, hc4, b4, hL, hd, hl4⟩
      exact ⟨_, rfl, q D ss H4 hL hd (by omega) (by omega) hc4 b4⟩
theorem scGreat : FnScope nSmall ["_law_cup_here", "_law_signs_here", "_law_many"] (defScope sGreat) := ⟨rfl, rfl, rfl, by decide +kernel, rfl, by decide +kernel, by decide +kernel⟩
theorem e30 : (10 : Int) ^ Int.toNat 30 = ((10 ^ 30 : Nat) : Int) := by decide +kernel
theorem e20 : (10 : Int) ^ Int.toNat 20 = ((10 ^ 20 : Nat) : Int) := by decide +kernel
theorem e6 : (10 : Int) ^ Int.toNat 6 = ((10 ^ 6 : Nat) : Int) := by decide +kernel
theorem sg_first {sg : Str} (h : Signs sg) : ∃ x, (cds sg)[0]? = some x ∧ x ∈ cds sg := by
  have h0 := (sg_len h).1
  have hl : 0 < (cds sg).length := by rw [cds_len]; exact h0
  exact ⟨(cds sg)[0], List.getElem?_eq_getElem hl, List.getElem_mem hl⟩
theorem ok_great {f fB fP fL : Addr} {fd dB dP dL : FuncData} (F : Fun K "_law_great_steps" "_law_great_steps" sGreat f fd) (T : Txt K mg) (DB : Df K mg "_law_bit" sBit ["_law_cup_here", "_law_much"] fB dB) (DP : Df K mg "_law_pick" sPick ["_law_cup_here", "_law_items"] fP dP)
    (DL : Df K mg "_law_line" sLine ["_law_cup_here", "_law_signs_here", "_law_most"] fL dL) : FnOk P w K mg base CX0 4 f fd ["_law_cup_here", "_law_signs_here", "_law_many"] (spDrawn (10 ^ 30) 1) := by
  have GB := ok_bit (P := P) (w := w) (base := base) DB.F T
  have GP := ok_pick (P := P) (w := w) (base := base) DP.F T DB
  have GL := ok_line (P := P) (w := w) (base := base) DL.F T DB DP
  refine F.ok scGreat (fun vs H Q E h => ?_) (fun cdv A outer s H vs Q E hr h => ?_)
  · obtain ⟨c, sg, m, rfl, _⟩ := h
    rfl
  · obtain ⟨c, sg, m, rfl, hc, hsg, m1, m20, q⟩ := h
    have r1 : Room 1 _ := hr.mono (by decide)
    have r2 : Room 2 _ := hr.mono (by decide)
    obtain ⟨x0, hx0, mx0⟩ := sg_first hsg
    have sgl : sg.length ≤ sizeLine := Nat.le_trans (sg_len hsg).2 (by decide)
    refine ⟨_, pss_cons (ps_set (i := 3) scGreat.nd rfl (Or.inl rfl) (pe_lst (pa_cons (pe_tup (pa_cons pe_str (pa_cons (pe_op op_add_str (pe_ix ix_str (pv 1) pe_int (fun _ _ => rfl)) (pe_call GL hr (by rfl) DL.m DL.F.kp DL.b .nil pass0 (pa_cons (pv 0) (pa_cons (pv 1) (pa_cons pe_int pa_nil))))) pa_nil))) pa_nil)))
      (pss_cons (ps_for PassesOwn.never rfl (pi_range1 rfl T.range (pa_cons (pe_op op_add pe_int (pe_call GB r1 (by rfl) DB.m DB.F.kp DB.b .nil pass0 (pa_cons (pv 0) (pa_cons (pv 2) pa_nil)))) pa_nil)) (pg_name (i := 4) scGreat.nd rfl (Or.inl rfl))
        (pss_cons (ps_par3 (i := 5) (j := 6) (l := 7) (by rfl) scGreat.nd rfl rfl rfl (by decide) (by decide) (by decide) rfl rfl rfl (pa_cons (pe_call GB r1 (by rfl) DB.m DB.F.kp DB.b .nil pass0 (pa_cons (pv 0) (pa_cons pe_int pa_nil))) (pa_cons (pe_call GB r1 (by rfl) DB.m DB.F.kp DB.b .nil pass0 (pa_cons (pv 0) (pa_cons (pe_callB call_len_seq (by rfl) T.len PySem.boot_len (pa_cons (pv 3) pa_nil)) pa_nil))) (pa_cons (pe_call GB r1 (by rfl) DB.m DB.F.kp DB.b .nil pass0 (pa_cons (pv 0) (pa_cons (pe_callB call_len_seq (by rfl) T.len PySem.boot_len (pa_cons (pv 3) pa_nil)) pa_nil))) pa_nil))) (by rfl))
        (pss_one (ps_if (pt_cmpR op_eq (pv 5) pe_int (nomark _)) (pss_one (ps_expr (pe_bm PySem.F.plainAttrs_list PySem.F.slot_list_append PySem.F.type_list_append mt_append (pv 3) (pa_cons (pe_tup (pa_cons pe_str (pa_cons (pe_call GL hr (by rfl) DL.m DL.F.kp DL.b .nil pass0 (pa_cons (pv 0) (pa_cons (pv 1) (pa_cons pe_int pa_nil)))) pa_nil))) pa_nil))))
          (pss_one (ps_if (pt_cmpR op_lt (pv 5) pe_int (nomark _)) (pss_one (ps_expr (pe_bm PySem.F.plainAttrs_list PySem.F.slot_list_append PySem.F.type_list_append mt_append (pv 3) (pa_cons (pe_tup (pa_cons pe_str (pa_cons (pv 6) (pa_cons (pv 7) pa_nil)))) pa_nil))))
            (pss_one (ps_expr (pe_bm PySem.F.plainAttrs_list PySem.F.slot_list_append PySem.F.type_list_append mt_append (pv 3) (pa_cons (pe_tup (pa_cons pe_str (pa_cons (pv 6) (pa_cons (pe_call GP r2 (by rfl) DP.m DP.F.kp DP.b .nil pass0 (pa_cons (pv 0) (pa_cons (pe_lst (pa_cons pe_int (pa_cons pe_int (pa_cons pe_int (pa_cons pe_int (pa_cons (pe_op op_pow pe_int pe_int) (pa_cons (pe_op op_add pe_int (pe_call GB r1 (by rfl) DB.m DB.F.kp DB.b .nil pass0 (pa_cons (pv 0) (pa_cons (pe_op op_pow pe_int pe_int) pa_nil)))) (pa_cons (pe_op op_add pe_int (pe_call GB r1 (by rfl) DB.m DB.F.kp DB.b .nil pass0 (pa_cons (pv 0) (pa_cons (pe_op op_pow pe_int pe_int) pa_nil)))) pa_nil)))))))) pa_nil))) pa_nil)))) pa_nil))))))))))
      (pss_one (ps_ret (pv 3)))), ?_⟩
    refine ⟨_, rfl, sg, 0, x0, rfl, rfl, sgl, atI_nat (j := 0) hx0, _, rfl, _, rfl, c, sg, 3, rfl, hc, hsg, by decide, fun z H1 hz hl hc1 b1 => ?_⟩
    have l1 : (one x0).length = 1 := rfl
    refine ⟨one x0, z, rfl, rfl, Nat.le_trans (show (one x0).length + z.length ≤ 4 by omega) (by decide), (by show 2 ≤ sizeLine; decide), fun p1 n1 => ⟨(by show 1 ≤ sizeLine; decide), fun D nD => ?_⟩⟩
    have hz' : Over sg (one x0 ++ z) := fun d hd => by
      rw [cds_app] at hd
      rcases List.mem_append.mp hd with hd | hd
      · have : d = x0 := by simpa using hd
        rw [this]
        exact mx0
      · exact hz d hd
    have hl' : (one x0 ++ z).length ≤ 4 := by rw [str_len]; omega
    have s1 := same_upd (o := .tup [V.str "text", V.str (one x0 ++ z)]) n1
    have e1 : StpAt (upd H1 p1 (.tup [V.str "text", V.str (one x0 ++ z)])) p1 (.txt (one x0 ++ z)) := upd_same
    have s2 := same_upd (o := .lst [V.ref p1]) nD
    have hD : LstS (upd (upd H1 p1 (.tup [V.str "text", V.str (one x0 ++ z)])) D (.lst [V.ref p1])) D [.txt (one x0 ++ z)] := ⟨[p1], upd_same, .cons (s2 _ _ e1) .nil⟩
    have hc2 := hc1.same (s1.trans s2)
    have nDc : D ≠ c := (hc1.same s1).ne nD
    have nD1 : H1 D = none := free_none s1 nD
    have b2 : But c H1 (upd (upd H1 p1 (.tup [V.str "text", V.str (one x0 ++ z)])) D (.lst [V.ref p1])) := But.of (s1.trans s2)
    generalize upd (upd H1 p1 (.tup [V.str "text", V.str (one x0 ++ z)])) D (.lst [V.ref p1]) = H2 at hD hc2 b2 ⊢
    have b02 := b1.trans b2
    have nD0 : H D = none := by
      cases hh : H D with
      | none => rfl
      | some o =>
        have := b1 _ _ nDc hh
        rw [nD1] at this
        cases this
    refine ⟨_, rfl, _, rfl, c, (m : Int), rfl, hc2, by omega, small9000 (by omega) (by omega), fun r H3 r0 rm hc3 b3 => ?_⟩
    obtain ⟨n, rfl⟩ : ∃ k : Nat, r = (k : Int) := ⟨r.toNat, by omega⟩
    refine ⟨_, _, rfl, rfl, _, rfl, by omega, by omega, ?_⟩
    have en : ((1 : Int) + (n : Int)).toNat = n + 1 := by omega
    rw [en]
    refine for_range (n := n + 1) (fun i σ H4 => ∃ (t4 t5 t6 t7 : Option V) (ss : List Stp), σ = [some (.ref c), some (.str sg), some (.int (m : Int)), some (.ref D), t4, t5, t6, t7] ∧ Cup H4 c ∧ But c H H4 ∧ LstS H4 D ss ∧ Drawn sg (10 ^ 30) ss ∧ ss.length = i + 1)
      ⟨none, none, none, none, _, rfl, hc3, b02.trans b3, hD.but hc2 nDc b3, Drawn.one hz' hl', rfl⟩ ?_ ?_
    · rintro i σ H4 hi ⟨t4, t5, t6, t7, ss, rfl, hc4, b4, ⟨ps, e4, hps⟩, hd, hl4⟩
      have lps := steps_len hps
      have lm : (ps.map V.ref).length = ss.length := by rw [List.length_map, lps]
      refine ⟨_, rfl, c, 5, rfl, hc4, by decide, small9000 (by decide) (by decide), fun lot H5 l0 l4 hc5 b5 => ?_⟩
      have e5 := b5 _ _ nDc e4
      refine ⟨_, rfl, _, rfl, D, _, rfl, .inl (SqL.of e5), c, ((ps.map V.ref).length : Int), rfl, hc5, by rw [lm]; omega, small9000 (by omega) (by rw [lm]; omega), fun one H6 o0 o6 hc6 b6 => ?_⟩
      have e6' := b6 _ _ nDc e5
      refine ⟨_, rfl, _, rfl, D, _, rfl, .inl (SqL.of e6'), c, ((ps.map V.ref).length : Int), rfl, hc6, by rw [lm]; omega, small9000 (by omega) (by rw [lm]; omega), fun two H7 u0 u7 hc7 b7 => ?_⟩
      have e7 := b7 _ _ nDc e6'
      rw [lm] at o6 u7
      obtain ⟨one, rfl⟩ : ∃ k : Nat, one = (k : Int) := ⟨one.toNat, by omega⟩
      obtain ⟨two, rfl⟩ : ∃ k : Nat, two = (k : Int) := ⟨two.toNat, by omega⟩
      refine ⟨_, _, _, rfl, ?_⟩
      have e8 := e7
      have hc8 := hc7
      have b48 := (b5.trans b6).trans b7
      have hps8 := hps.keep (KeepT.but hc4.noT b48)
      clear e7
      have b08 := b4.trans b48
      have lenD : (ps.map V.ref).length < sizeLine := by
        rw [lm, hl4]
        exact Nat.lt_of_le_of_lt (show i + 1 ≤ 100 by omega) (by decide)
      refine ⟨_, rfl, rfl, _, rfl, ?_⟩
      by_cases h0 : lot = 0
      · rw [decide_eq_true (congrArg V.int h0)]
        refine iteT ?_
        refine ⟨_, rfl, .inl ⟨rfl, _, SqL.of e8⟩, _, rfl, _, rfl, c, sg, 3, rfl, hc8, hsg, by decide, fun z2 H9 hz2 hl2 hc9 b9 => ⟨(by show 2 ≤ sizeLine; decide), fun p2 n2 => ?_⟩⟩
        have s10 := same_upd (o := .tup [V.str "text", V.str z2]) n2
        have e10 := s10 _ _ (b9 _ _ nDc e8)
        have hps10 := hps8.keep ((KeepT.but hc8.noT b9).trans (KeepT.same s10))
        have q10 : StpAt (upd H9 p2 (.tup [V.str "text", V.str z2])) p2 (.txt z2) := upd_same
        exact ⟨D, _, _, rfl, rfl, e10, lenD, _, _, _, _, _, rfl, (hc9.same s10).put nDc, ((b08.trans b9).trans (But.of s10)).putN nD0, LstS.add e10 hps10 q10, hd.snoc ⟨hz2, by omega⟩ (show z2.length ≤ 4 by omega), by rw [List.length_append, hl4]; rfl⟩
      · rw [decide_eq_false (fun e => h0 (by injection e))]
        refine iteF ?_
        refine ⟨_, rfl, _, _, rfl, rfl, _, rfl, ?_⟩
        by_cases h3 : lot < 3
        · rw [decide_eq_true h3]
          refine iteT ?_
          refine ⟨_, rfl, .inl ⟨rfl, _, SqL.of e8⟩, _, rfl, _, rfl, (by show 3 ≤ sizeLine; decide), fun p2 n2 => ?_⟩
          have s10 := same_upd (o := .tup [V.str "join", V.int (one : Int), V.int (two : Int)]) n2
          have e10 := s10 _ _ e8
          have q10 : StpAt (upd H7 p2 (.tup [V.str "join", V.int (one : Int), V.int (two : Int)])) p2 (.join one two) := upd_same
          exact ⟨D, _, _, rfl, rfl, e10, lenD, _, _, _, _, _, rfl, (hc8.same s10).put nDc, (b08.trans (But.of s10)).putN nD0, LstS.add e10 (hps8.keep (.same s10)) q10, hd.snoc ⟨by omega, by omega⟩ trivial, by rw [List.length_append, hl4]; rfl⟩
        · rw [decide_eq_false h3]
          refine iteF ?_
          have p30 : (0 : Int) < 10 ^ Int.toNat 30 := by decide +kernel
          have p6 : (0 : Int) < 10 ^ Int.toNat 6 := by decide +kernel
          refine ⟨_, rfl, .inl ⟨rfl, _, SqL.of e8⟩, _, rfl, _, rfl, ⟨_, _, rfl, rfl, ⟨by decide, by decide, by decide⟩, ?_⟩⟩
          refine ⟨_, rfl, _, _, rfl, rfl, ⟨by decide, by decide, by decide⟩, c, _, rfl, hc8, p30, by decide +kernel, fun ra H9 ra0 ra1 hc9 b9 => ⟨_, _, rfl, rfl, ?_⟩⟩
          refine ⟨_, rfl, _, _, rfl, rfl, ⟨by decide, by decide, by decide⟩, c, _, rfl, hc9, p6, by decide +kernel, fun rb H10 rb0 rb1 hc10 b10 => ⟨_, _, rfl, rfl, ?_⟩⟩
          refine ⟨(by show 7 ≤ sizeLine; decide), fun L nL => ?_⟩
          have sL := same_upd (o := .lst [V.int 0, V.int 1, V.int 2, V.int 3, V.int (10 ^ Int.toNat 20), V.int (1 + ra), V.int (1 + rb)]) nL
          refine ⟨c, hc10.same sL, .inl ⟨L, [V.int 0, V.int 1, V.int 2, V.int 3, V.int (10 ^ Int.toNat 20), V.int (1 + ra), V.int (1 + rb)], rfl, hc10.ne nL, upd_same, (by show 0 < 7; decide), (by show 7 < 100; decide), fun x H11 hx hc11 b11 => ⟨(by show 3 ≤ sizeLine; decide), fun p2 n2 => ?_⟩⟩⟩
          have b811 := ((b9.trans b10).trans (But.of (c := c) sL)).trans b11
          obtain ⟨k, rfl, hk⟩ : ∃ k : Nat, x = .int (k : Int) ∧ k ≤ 10 ^ 30 := by
            rw [e30] at ra1
            rw [e6] at rb1
            have q30 : (10 ^ 6 : Nat) ≤ 10 ^ 30 := by decide +kernel
            have q20 : (10 ^ 20 : Nat) ≤ 10 ^ 30 := by decide +kernel
            have q0 : 3 ≤ (10 ^ 30 : Nat) := by decide +kernel
            generalize (10 ^ 30 : Nat) = M at ra1 q30 q20 q0 ⊢
            generalize (10 ^ 6 : Nat) = M6 at rb1 q30
            simp only [List.mem_cons, List.not_mem_nil, or_false] at hx
            rcases hx with rfl | rfl | rfl | rfl | rfl | rfl | rfl
            · exact ⟨0, rfl, by omega⟩
            · exact ⟨1, rfl, by omega⟩
            · exact ⟨2, rfl, by omega⟩
            · exact ⟨3, rfl, by omega⟩
            · exact ⟨10 ^ 20, congrArg V.int e20, q20⟩
            · exact ⟨(1 + ra).toNat, congrArg V.int (by omega), by omega⟩
            · exact ⟨(1 + rb).toNat, congrArg V.int (by omega), by omega⟩
          have s12 := same_upd (o := .tup [V.str "power", V.int (one : Int), V.int (k : Int)]) n2
          have e12 := s12 _ _ (b811 _ _ nDc e8)
          have hps12 := hps8.keep ((KeepT.but hc8.noT b811).trans (KeepT.same s12))
          have q12 : StpAt (upd H11 p2 (.tup [V.str "power", V.int (one : Int), V.int (k : Int)])) p2 (.pow one k) := upd_same
          exact ⟨D, _, _, rfl, rfl, e12, lenD, _, _, _, _, _, rfl, (hc11.same s12).put nDc, ((b08.trans b811).trans (But.of s12)).putN nD0, LstS.add e12 hps12 q12, hd.snoc ⟨by omega, Nat.le_trans hk (by decide +kernel)⟩ hk, by rw [List.length_append, hl4]; rfl⟩
    · rintro σ H4 ⟨t4, t5, t6, t7, ss, rfl, hc4, b4, hL, hd, hl4⟩
      exact ⟨_, rfl, q D ss H4 hL hd (by omega) (by omega) hc4 b4⟩
end
end K58

set_option Elab.async false
set_option linter.all false
set_option maxRecDepth 100000
set_option maxHeartbeats 3200000
namespace K58
open PySem L2 Tx Tg Tm Sm
theorem op_mulV {X : Cx} : OpR X (binaryOp .Mult) (fun x y H Q => ∃ (z : Str) (n : Nat), x = .str z ∧ y = .int (n : Int) ∧ n ≤ 10000 ∧ z.length * n ≤ 10000 ∧ Q (.str (tx (rep n (cds z)))) H) := by
  intro pins s σ H x y v u Q I rx ry h
  obtain ⟨z, n, rfl, rfl, h2, h3, q⟩ := h
  by_cases h1 : 1 ≤ n
  · exact op_mulU pins s σ H _ _ v u Q I rx ry ⟨z, n, rfl, rfl, h1, h2, h3, q⟩
  · obtain rfl : n = 0 := by omega
    obtain ⟨t, rfl⟩ := rx
    obtain ⟨t', rfl⟩ := ry
    exact SB.mul ⟨by decide, fun h => absurd (by decide) h, fun h => absurd (by decide) h⟩ fun t2 k => ⟨.str (Txt.mul z 0), H, I.tok _, ⟨t2, rfl⟩, q⟩
abbrev strsV (l : List (List Nat)) : List V := l.map fun z => V.str (tx z)
def linesT (ss : List Stp) : List (List Nat) := (List.range ss.length).map (L ss)
theorem linesT_len (ss : List Stp) : (linesT ss).length = ss.length := by
  unfold linesT
  rw [List.length_map, List.length_range]
theorem linesT_get {ss : List Stp} {i : Nat} (h : i < ss.length) : (linesT ss)[i]? = some (L ss i) := by
  unfold linesT
  rw [List.getElem?_map, List.getElem?_range h]
  rfl
theorem linesT_take {ss : List Stp} {i : Nat} (h : i < ss.length) : (linesT ss).take (i + 1) = (linesT ss).take i ++ [L ss i] := by
  rw [List.take_add_one, linesT_get h]
  rfl
theorem strsV_app (l m : List (List Nat)) : strsV (l ++ m) = strsV l ++ strsV m := List.map_append
theorem strs_at {ss : List Stp} {i j : Nat} (h : i < ss.length) (hj : j < i) : (strsV ((linesT ss).take i))[j]? = some (.str (tx (L ss j))) := by
  rw [List.getElem?_map, List.getElem?_take, if_pos hj, linesT_get (by omega)]
  rfl
section
variable {P : Program} {w : World} {K : PySem.W.Frag} {mg : Str → Option Value} {base : Heap}
def spLinesOf : Sp := fun vs H Q _ => ∃ (sg : Str) (a : Addr) (ss : List Stp), vs = [.ref a] ∧ LstS H a ss ∧ Drawn sg 3 ss ∧ (∀ i, i < ss.length → Z ss i ≤ 4000) ∧ ss.length ≤ 100 ∧ ∀ p H', Same H H' → H' p = some (.lst (strsV (linesT ss))) → Q (.ref p) H'
theorem scLinesOf : FnScope ["_law_steps", "_law_found", "_law_step"] ["_law_steps"] (defScope sLinesOf) := ⟨rfl, rfl, rfl, by decide +kernel, rfl, by decide +kernel, by decide +kernel⟩
theorem ok_linesof {f : Addr} {fd : FuncData} (F : Fun K "_law_lines_of" "_law_lines_of" sLinesOf f fd) (T : Txt K mg) : FnOk P w K mg base CX0 1 f fd ["_law_steps"] spLinesOf := by
  refine F.ok scLinesOf (fun vs H Q E h => ?_) (fun cdv A outer s H vs Q E hr h => ?_)
  · obtain ⟨sg, a, ss, rfl, _⟩ := h
    rfl
  · obtain ⟨sg, a, ss, rfl, ⟨ps, ea, hps⟩, hd, hz, hl, q⟩ := h
    refine ⟨_, pss_cons (ps_set (i := 1) scLinesOf.nd rfl (Or.inl rfl) (pe_lst pa_nil))
      (pss_cons (ps_for PassesOwn.never rfl (pi_list (pv 0)) (pg_name (i := 2) scLinesOf.nd rfl (Or.inl rfl))
        (pss_one (ps_if (pt_cmpR op_eq (pe_ix ix_tup (pv 2) pe_int (fun _ _ => rfl)) pe_str (nomark _))
          (pss_one (ps_expr (pe_bm PySem.F.plainAttrs_list PySem.F.slot_list_append PySem.F.type_list_append mt_append (pv 1) (pa_cons (pe_ix ix_tup (pv 2) pe_int (fun _ _ => rfl)) pa_nil))))
          (pss_one (ps_if (pt_cmpR op_eq (pe_ix ix_tup (pv 2) pe_int (fun _ _ => rfl)) pe_str (nomark _))
            (pss_one (ps_expr (pe_bm PySem.F.plainAttrs_list PySem.F.slot_list_append PySem.F.type_list_append mt_append (pv 1) (pa_cons (pe_op op_add_str (pe_ix ix_list (pv 1) (pe_ix ix_tup (pv 2) pe_int (fun _ _ => rfl)) (fun _ _ => rfl)) (pe_ix ix_list (pv 1) (pe_ix ix_tup (pv 2) pe_int (fun _ _ => rfl)) (fun _ _ => rfl))) pa_nil))))
            (pss_one (ps_expr (pe_bm PySem.F.plainAttrs_list PySem.F.slot_list_append PySem.F.type_list_append mt_append (pv 1) (pa_cons (pe_op op_mulV (pe_ix ix_list (pv 1) (pe_ix ix_tup (pv 2) pe_int (fun _ _ => rfl)) (fun _ _ => rfl)) (pe_ix ix_tup (pv 2) pe_int (fun _ _ => rfl))) pa_nil)))))))))
      (pss_one (ps_ret (pv 1)))), ?_⟩
    have lps := steps_len hps
    refine ⟨Nat.zero_le _, fun D nD => ?_⟩
    have sD := same_upd (o := .lst []) nD
    refine ⟨_, rfl, a, rfl, ⟨_, SqL.of (sD _ _ ea)⟩, ?_⟩
    refine for_list (xs := ps.map V.ref) (fun i σ H1 => ∃ t2 : Option V, σ = [some (.ref a), some (.ref D), t2] ∧ Same H H1 ∧ H1 D = some (.lst (strsV ((linesT ss).take i))))
      ⟨none, rfl, sD, upd_same⟩ (fun i σ H1 _ z => by obtain ⟨_, _, s1, _⟩ := z; exact SqL.of (s1 _ _ ea)) ?_ ?_
    · rintro i x σ H1 hx ⟨t2, rfl, s1, e1⟩
      have hi := (List.getElem?_eq_some_iff.mp hx).1
      rw [List.length_map] at hi
      rw [refs_at hi] at hx
      cases hx
      have hi2 : i < ss.length := by omega
      obtain ⟨st, hst, hat⟩ := steps_at (hps.keep (.same s1)) i hi
      have ht : SqT K H1 ps[i] (svals st) := SqT.of hat
      have okg := hd.ok.good i st hst
      have eL := L_at hd.ok.good hst
      have hzi : (L ss i).length ≤ 4000 := hz i hi2
      have lenD : (strsV ((linesT ss).take i)).length < sizeLine := by
        rw [List.length_map, List.length_take]
        exact Nat.lt_of_le_of_lt (show _ ≤ 100 by omega) (by decide)
      have fin : ∀ z : Str, z = tx (L ss i) → (upd H1 D (.lst (strsV ((linesT ss).take i) ++ [V.str z]))) D = some (.lst (strsV ((linesT ss).take (i + 1)))) := fun z ez => by
        rw [upd_same, linesT_take hi2, strsV_app, ez]
        rfl
      cases st with
      | txt z =>
        refine ⟨_, rfl, ps[i], _, 0, .str "text", rfl, rfl, ht, rfl, rfl, _, rfl, ?_⟩
        rw [decide_eq_true rfl]
        refine iteT ?_
        exact ⟨_, rfl, .inl ⟨rfl, _, SqL.of e1⟩, _, rfl, ps[i], _, 1, .str z, rfl, rfl, ht, rfl, D, _, _, rfl, rfl, e1, lenD, _, rfl, same_put s1 nD, fin z (by rw [eL]; exact (tx_cds z).symm)⟩
      | join b c =>
        have lbc : (L ss b).length + (L ss c).length ≤ 4000 := by
          rw [eL] at hzi
          have : (L ss b ++ L ss c).length ≤ 4000 := hzi
          rw [List.length_append] at this
          exact this
        refine ⟨_, rfl, ps[i], _, 0, .str "join", rfl, rfl, ht, rfl, rfl, _, rfl, ?_⟩
        rw [decide_eq_false (show ¬ (V.str "join" = V.str "text") by decide +kernel)]
        refine iteF ?_
        refine ⟨_, rfl, ps[i], _, 0, .str "join", rfl, rfl, ht, rfl, rfl, _, rfl, ?_⟩
        rw [decide_eq_true rfl]
        refine iteT ?_
        refine ⟨_, rfl, .inl ⟨rfl, _, SqL.of e1⟩, _, rfl, _, rfl, ps[i], _, 1, .int (b : Int), rfl, rfl, ht, rfl, D, _, (b : Int), _, rfl, rfl, SqL.of e1, atI_nat (strs_at hi2 okg.1), _, rfl, _, rfl, ps[i], _, 2, .int (c : Int), rfl, rfl, ht, rfl, D, _, (c : Int), _, rfl, rfl, SqL.of e1, atI_nat (strs_at hi2 okg.2), ?_⟩
        refine ⟨tx (L ss b), tx (L ss c), rfl, rfl, by rw [tx_len, tx_len]; exact Nat.le_trans lbc (by decide), D, _, _, rfl, rfl, e1, lenD, _, rfl, same_put s1 nD, fin _ (by rw [eL, tx_app]; rfl)⟩
      | pow b k =>
        have hk : k ≤ 3 := hd.dr _ (List.mem_of_getElem? hst)
        have hzb : (L ss b).length ≤ 4000 := hz b (by have : b < i := okg; omega)
        refine ⟨_, rfl, ps[i], _, 0, .str "power", rfl, rfl, ht, rfl, rfl, _, rfl, ?_⟩
        rw [decide_eq_false (show ¬ (V.str "power" = V.str "text") by decide +kernel)]
        refine iteF ?_
        refine ⟨_, rfl, ps[i], _, 0, .str "power", rfl, rfl, ht, rfl, rfl, _, rfl, ?_⟩
        rw [decide_eq_false (show ¬ (V.str "power" = V.str "join") by decide +kernel)]
        refine iteF ?_
        have lk : (L ss b).length * k ≤ 10000 := by
          rw [eL] at hzi
          have : (rep k (L ss b)).length ≤ 4000 := hzi
          rw [rep_len, Nat.mul_comm] at this
          omega
        refine ⟨_, rfl, .inl ⟨rfl, _, SqL.of e1⟩, _, rfl, _, rfl, ps[i], _, 1, .int (b : Int), rfl, rfl, ht, rfl, D, _, (b : Int), _, rfl, rfl, SqL.of e1, atI_nat (strs_at hi2 okg), _, rfl, ps[i], _, 2, .int (k : Int), rfl, rfl, ht, rfl, ?_⟩
        exact ⟨tx (L ss b), k, rfl, rfl, by omega, by rw [tx_len]; exact lk, D, _, _, rfl, rfl, e1, lenD, _, rfl, same_put s1 nD, fin _ (by rw [eL]; rfl)⟩
    · rintro σ H1 ⟨t2, rfl, s1, e1⟩
      rw [List.length_map, List.take_of_length_le (by rw [linesT_len]; omega)] at e1
      exact ⟨_, rfl, q D H1 s1 e1⟩
/-! ### the law's own sizes -/
def spSizesOf : Sp := fun vs H Q _ => ∃ (sg : Str) (a : Addr) (ss : List Stp), vs = [.ref a] ∧ LstS H a ss ∧ okStps sg ss ∧ (∀ i, i < ss.length → Z ss i < 10 ^ 400) ∧ ss.length ≤ 100 ∧ ∀ p H', H p = none → Same H H' → H' p = some (.lst (intsV (sizes ss))) → Q (.ref p) H'
theorem scSizesOf : FnScope ["_law_steps", "_law_found", "_law_step"] ["_law_steps"] (defScope sSizesOf) := ⟨rfl, rfl, rfl, by decide +kernel, rfl, by decide +kernel, by decide +kernel⟩
theorem ok_sizesof {f : Addr} {fd : FuncData} (F : Fun K "_law_sizes_of" "_law_sizes_of" sSizesOf f fd) (T : Txt K mg) : FnOk P w K mg base CX0 1 f fd ["_law_steps"] spSizesOf := by
  refine F.ok scSizesOf (fun vs H Q E h => ?_) (fun cdv A outer s H vs Q E hr h => ?_)
  · obtain ⟨sg, a, ss, rfl, _⟩ := h
    rfl
  · obtain ⟨sg, a, ss, rfl, ⟨ps, ea, hps⟩, ok, hz, hl, q⟩ := h
    refine ⟨_, pss_cons (ps_set (i := 1) scSizesOf.nd rfl (Or.inl rfl) (pe_lst pa_nil))
      (pss_cons (ps_for PassesOwn.never rfl (pi_list (pv 0)) (pg_name (i := 2) scSizesOf.nd rfl (Or.inl rfl))
        (pss_one (ps_if (pt_cmpR op_eq (pe_ix ix_tup (pv 2) pe_int (fun _ _ => rfl)) pe_str (nomark _))
          (pss_one (ps_expr (pe_bm PySem.F.plainAttrs_list PySem.F.slot_list_append PySem.F.type_list_append mt_append (pv 1) (pa_cons (pe_callB call_len (by rfl) T.len PySem.boot_len (pa_cons (pe_ix ix_tup (pv 2) pe_int (fun _ _ => rfl)) pa_nil)) pa_nil))))
          (pss_one (ps_expr (pe_bm PySem.F.plainAttrs_list PySem.F.slot_list_append PySem.F.type_list_append mt_append (pv 1) (pa_cons (pe_ifExp (pt_cmpR op_eq (pe_ix ix_tup (pv 2) pe_int (fun _ _ => rfl)) pe_str (nomark _))
            (pe_op op_add (pe_ix ix_list (pv 1) (pe_ix ix_tup (pv 2) pe_int (fun _ _ => rfl)) (fun _ _ => rfl)) (pe_ix ix_list (pv 1) (pe_ix ix_tup (pv 2) pe_int (fun _ _ => rfl)) (fun _ _ => rfl)))
            (pe_op op_mulW (pe_ix ix_list (pv 1) (pe_ix ix_tup (pv 2) pe_int (fun _ _ => rfl)) (fun _ _ => rfl)) (pe_ix ix_tup (pv 2) pe_int (fun _ _ => rfl)))) pa_nil)))))))
      (pss_one (ps_ret (pv 1)))), ?_⟩
    have lps := steps_len hps
    refine ⟨Nat.zero_le _, fun D nD => ?_⟩
    have sD := same_upd (o := .lst []) nD
    refine ⟨_, rfl, a, rfl, ⟨_, SqL.of (sD _ _ ea)⟩, ?_⟩
    refine for_list (xs := ps.map V.ref) (fun i σ H1 => ∃ t2 : Option V, σ = [some (.ref a), some (.ref D), t2] ∧ Same H H1 ∧ H1 D = some (.lst (intsV ((sizes ss).take i))))
      ⟨none, rfl, sD, upd_same⟩ (fun i σ H1 _ z => by obtain ⟨_, _, s1, _⟩ := z; exact SqL.of (s1 _ _ ea)) ?_ ?_
    · rintro i x σ H1 hx ⟨t2, rfl, s1, e1⟩
      have hi := (List.getElem?_eq_some_iff.mp hx).1
      rw [List.length_map] at hi
      rw [refs_at hi] at hx
      cases hx
      have hi2 : i < ss.length := by omega
      obtain ⟨st, hst, hat⟩ := steps_at (hps.keep (.same s1)) i hi
      have ht : SqT K H1 ps[i] (svals st) := SqT.of hat
      have ok1 := ok i st hst
      have ez := Z_at ok.good hst
      have lenD : (intsV ((sizes ss).take i)).length < sizeLine := by
        rw [List.length_map, List.length_take]
        exact Nat.lt_of_le_of_lt (show _ ≤ 100 by omega) (by decide)
      have fin : ∀ v : V, v = V.int (Z ss i : Int) → (upd H1 D (.lst (intsV ((sizes ss).take i) ++ [v]))) D = some (.lst (intsV ((sizes ss).take (i + 1)))) := fun z e => by
        rw [upd_same, sizes_take hi2, intsV_app, e]
        rfl
      cases st with
      | txt z =>
        refine ⟨_, rfl, ps[i], _, 0, .str "text", rfl, rfl, ht, rfl, rfl, _, rfl, ?_⟩
        rw [decide_eq_true rfl]
        refine iteT ?_
        exact ⟨_, rfl, .inl ⟨rfl, _, SqL.of e1⟩, _, rfl, ps[i], _, 1, .str z, rfl, rfl, ht, rfl, _, z.length, rfl, ⟨Nat.le_trans ok1.2 (by decide), rfl⟩, D, _, _, rfl, rfl, e1, lenD, _, rfl, same_put s1 nD, fin _ (by rw [ez]; rfl)⟩
      | join b c =>
        refine ⟨_, rfl, ps[i], _, 0, .str "join", rfl, rfl, ht, rfl, rfl, _, rfl, ?_⟩
        rw [decide_eq_false (show ¬ (V.str "join" = V.str "text") by decide +kernel)]
        refine iteF ?_
        refine ⟨_, rfl, .inl ⟨rfl, _, SqL.of e1⟩, _, rfl, ps[i], _, 0, .str "join", rfl, rfl, ht, rfl, rfl, _, rfl, ?_⟩
        rw [decide_eq_true rfl]
        refine iteT ?_
        exact ⟨_, rfl, _, rfl, ps[i], _, 1, .int (b : Int), rfl, rfl, ht, rfl, D, _, (b : Int), _, rfl, rfl, SqL.of e1, atI_nat (intsV_at (take_at hi2 ok1.1)), _, rfl, _, rfl, ps[i], _, 2, .int (c : Int), rfl, rfl, ht, rfl, D, _, (c : Int), _, rfl, rfl, SqL.of e1, atI_nat (intsV_at (take_at hi2 ok1.2)), _, _, rfl, rfl,
          D, _, _, rfl, rfl, e1, lenD, _, rfl, same_put s1 nD, fin _ (by rw [ez]; exact congrArg V.int (Int.natCast_add ..).symm)⟩
      | pow b k =>
        have zb := hz b (by have := ok1.1; omega)
        refine ⟨_, rfl, ps[i], _, 0, .str "power", rfl, rfl, ht, rfl, rfl, _, rfl, ?_⟩
        rw [decide_eq_false (show ¬ (V.str "power" = V.str "text") by decide +kernel)]
        refine iteF ?_
        refine ⟨_, rfl, .inl ⟨rfl, _, SqL.of e1⟩, _, rfl, ps[i], _, 0, .str "power", rfl, rfl, ht, rfl, rfl, _, rfl, ?_⟩
        rw [decide_eq_false (show ¬ (V.str "power" = V.str "join") by decide +kernel)]
        refine iteF ?_
        exact ⟨_, rfl, _, rfl, ps[i], _, 1, .int (b : Int), rfl, rfl, ht, rfl, D, _, (b : Int), _, rfl, rfl, SqL.of e1, atI_nat (intsV_at (take_at hi2 ok1.1)), _, rfl, ps[i], _, 2, .int (k : Int), rfl, rfl, ht, rfl, _, _, rfl, rfl, wide_mul (big400 zb) (big100 ok1.2) (by decide) (by decide) (by decide),
          D, _, _, rfl, rfl, e1, lenD, _, rfl, same_put s1 nD, fin _ (by rw [ez]; exact congrArg V.int (Int.natCast_mul ..).symm)⟩
    · rintro σ H1 ⟨t2, rfl, s1, e1⟩
      rw [List.length_map, List.take_of_length_le (by rw [sizes_len]; omega)] at e1
      exact ⟨_, rfl, q D H1 nD s1 e1⟩
end
end K58

set_option Elab.async false
set_option linter.all false
set_option maxRecDepth 100000
set_option maxHeartbeats 3200000
namespace K58
open PySem L2 Tx Tg Tm Sm
section
variable {P : Program} {w : World} {K : PySem.W.Frag} {mg : Str → Option Value} {base : Heap}
abbrev nLL : List Str := ["_law_steps", "_law_many", "_law_place", "_law_spot", "_law_step", "_law_ahead"]
def spLL : Sp := fun vs H Q _ => ∃ (sg : Str) (a b : Addr) (ss : List Stp) (m x c : Nat), vs = [.ref a, .ref b, .int (m : Int), .int (x : Int)] ∧ LstS H a ss ∧ H b = some (.lst (intsV (sizes ss))) ∧ okStps sg ss ∧ m < ss.length ∧ (L ss m)[x]? = some c ∧ ∀ H', Same H H' → Q (.str (one c)) H'
theorem scLL : FnScope nLL ["_law_steps", "_law_many", "_law_place", "_law_spot"] (defScope sLawLetter) := ⟨rfl, rfl, rfl, by decide +kernel, rfl, by decide +kernel, by decide +kernel⟩
theorem ok_ll {f : Addr} {fd : FuncData} (F : Fun K "_law_letter_at" "_law_letter_at" sLawLetter f fd) (T : Txt K mg) : FnOk P w K mg base CX0 1 f fd ["_law_steps", "_law_many", "_law_place", "_law_spot"] spLL := by
  refine F.ok scLL (fun vs H Q E h => ?_) (fun cdv A outer s H vs Q E hr h => ?_)
  · obtain ⟨sg, a, b, ss, m, x, c, rfl, _⟩ := h
    rfl
  · obtain ⟨sg, a, b, ss, m0, x, c, rfl, ⟨ps, ea, hps⟩, hb, ok, hm0, hx, q⟩ := h
    refine ⟨_, pss_cons (ps_while PassesOwn.never (pt_cmpR op_ne (pe_ix ix_tup (pe_ix ix_list (pv 0) (pv 2) (fun _ _ => rfl)) pe_int (fun _ _ => rfl)) pe_str (nomark _))
        (pss_cons (ps_set (i := 4) scLL.nd rfl (Or.inl rfl) (pe_ix ix_list (pv 0) (pv 2) (fun _ _ => rfl)))
        (pss_cons (ps_set (i := 5) scLL.nd rfl (Or.inl rfl) (pe_ix ix_list (pv 1) (pe_ix ix_tup (pv 4) pe_int (fun _ _ => rfl)) (fun _ _ => rfl)))
        (pss_one (ps_if (pt_cmpR op_eq (pe_ix ix_tup (pv 4) pe_int (fun _ _ => rfl)) pe_str (nomark _))
          (pss_one (ps_par (i := 2) (j := 3) (by rfl) scLL.nd rfl rfl (by decide) rfl rfl (pa_cons (pe_ix ix_tup (pv 4) pe_int (fun _ _ => rfl)) (pa_cons (pe_op op_modN (pe_callTy call_int1 (by rfl) T.int (by decide +kernel) (pa_cons (pv 3) pa_nil)) (pv 5)) pa_nil)) (by rfl)))
          (pss_one (ps_asg (pe_ifExp (pt_cmpR op_lt (pv 3) (pv 5) (nomark _)) (pe_tup (pa_cons (pe_ix ix_tup (pv 4) pe_int (fun _ _ => rfl)) (pa_cons (pv 3) pa_nil))) (pe_tup (pa_cons (pe_ix ix_tup (pv 4) pe_int (fun _ _ => rfl)) (pa_cons (pe_op op_sub (pv 3) (pv 5)) pa_nil))))
            (pg_tup rfl (pgs_cons (pg_name (i := 2) scLL.nd rfl (Or.inl rfl)) (pgs_cons (pg_name (i := 3) scLL.nd rfl (Or.inl rfl)) pgs_nil))))))))))
      (pss_one (ps_ret (pe_ix ix_str (pe_ix ix_tup (pe_ix ix_list (pv 0) (pv 2) (fun _ _ => rfl)) pe_int (fun _ _ => rfl)) (pv 3) (fun _ _ => rfl)))), ?_⟩
    have lps := steps_len hps
    have hg := ok.good
    refine while_by (fun σ H1 => ∃ (m y : Nat) (t4 t5 : Option V), σ = [some (.ref a), some (.ref b), some (.int (m : Int)), some (.int (y : Int)), t4, t5] ∧ Same H H1 ∧ m < ss.length ∧ (L ss m)[y]? = some c)
      (fun σ _ => match σ with
        | [_, _, some (.int m), _, _, _] => m.toNat
        | _ => 0) ⟨m0, x, none, none, rfl, Same.refl H, hm0, hx⟩ ?_ ?_
    · rintro σ H1 ⟨m, y, t4, t5, rfl, s1, hm, hy⟩
      have hlt : m < ps.length := by omega
      have hA : SqL K H1 a (ps.map V.ref) := SqL.of (s1 _ _ ea)
      have hB : SqL K H1 b (intsV (sizes ss)) := SqL.of (s1 _ _ hb)
      obtain ⟨st, hst, hat⟩ := steps_at (hps.keep (.same s1)) m hlt
      have ht : SqT K H1 ps[m] (svals st) := SqT.of hat
      have okm := hg m st hst
      have hyz : y < Z ss m := (List.getElem?_eq_some_iff.mp hy).1
      cases st with
      | txt z =>
        refine ⟨_, rfl, _, rfl, a, _, _, _, rfl, rfl, hA, atI_nat (refs_at hlt), ps[m], _, 0, .str "text", rfl, rfl, ht, rfl, rfl, _, rfl, ?_⟩
        rw [decide_eq_true rfl]
        refine iteF ?_
        have okz := ok m _ hst
        rw [L_at hg hst] at hy
        exact ⟨_, rfl, _, rfl, a, _, _, _, rfl, rfl, hA, atI_nat (refs_at hlt), ps[m], _, 1, .str z, rfl, rfl, ht, rfl, _, rfl, z, (y : Int), c, rfl, rfl, Nat.le_trans okz.2 (by decide), atI_nat hy, q H1 s1⟩
      | join i j =>
        refine ⟨_, rfl, _, rfl, a, _, _, _, rfl, rfl, hA, atI_nat (refs_at hlt), ps[m], _, 0, .str "join", rfl, rfl, ht, rfl, rfl, _, rfl, ?_⟩
        rw [decide_eq_false (show ¬ (V.str "join" = V.str "text") by decide +kernel)]
        refine iteT ?_
        refine ⟨_, rfl, _, rfl, a, _, _, _, rfl, rfl, hA, atI_nat (refs_at hlt), ?_⟩
        refine ⟨_, rfl, _, rfl, ps[m], _, 1, .int (i : Int), rfl, rfl, ht, rfl, b, _, _, _, rfl, rfl, hB, atI_nat (sizes_at (by have := okm.1; omega)), ?_⟩
        refine ⟨_, rfl, ps[m], _, 0, .str "join", rfl, rfl, ht, rfl, rfl, _, rfl, ?_⟩
        rw [decide_eq_false (show ¬ (V.str "join" = V.str "power") by decide +kernel)]
        refine iteF ?_
        refine ⟨_, rfl, _, rfl, _, _, rfl, rfl, _, rfl, ?_⟩
        have hj := join_get hg hst y
        rw [hy] at hj
        by_cases hl : y < Z ss i
        · rw [if_pos hl] at hj
          rw [decide_eq_true (show (y : Int) < (Z ss i : Int) by omega)]
          refine iteT ?_
          refine ⟨_, rfl, ps[m], _, 1, .int (i : Int), rfl, rfl, ht, rfl, _, rfl, (by show 2 ≤ sizeLine; decide), fun pt npt => ⟨pt, _, rfl, SqT.of upd_same, rfl, _, _, rfl, _, _, rfl, rfl, ?_⟩⟩
          refine ⟨⟨i, y, _, _, rfl, s1.trans (same_upd npt), by have := okm.1; omega, hj.symm⟩, ?_⟩
          show ((i : Nat) : Int).toNat < ((m : Nat) : Int).toNat
          have := okm.1
          omega
        · rw [if_neg hl] at hj
          rw [decide_eq_false (show ¬ (y : Int) < (Z ss i : Int) by omega)]
          refine iteF ?_
          refine ⟨_, rfl, ps[m], _, 2, .int (j : Int), rfl, rfl, ht, rfl, _, rfl, _, rfl, _, _, rfl, rfl, (by show 2 ≤ sizeLine; decide), fun pt npt => ⟨pt, _, rfl, SqT.of upd_same, rfl, _, _, rfl, _, _, rfl, rfl, ?_⟩⟩
          have ec : V.int ((y : Int) - (Z ss i : Int)) = V.int ((y - Z ss i : Nat) : Int) := congrArg V.int (by omega)
          refine ⟨⟨j, y - Z ss i, some (.ref ps[m]), some (.int (Z ss i : Int)), ?_, s1.trans (same_upd npt), by have := okm.2; omega, hj.symm⟩, ?_⟩
          · show [some (V.ref a), some (V.ref b), some (V.int (j : Int)), some (V.int ((y : Int) - (Z ss i : Int))), some (V.ref ps[m]), some (V.int (Z ss i : Int))] = _
            rw [ec]
          · show ((j : Nat) : Int).toNat < ((m : Nat) : Int).toNat
            have := okm.2
            omega
      | pow i k =>
        obtain ⟨hp, hz⟩ := pow_get hg hst hyz
        rw [hy] at hp
        have im : i < m := okm
        refine ⟨_, rfl, _, rfl, a, _, _, _, rfl, rfl, hA, atI_nat (refs_at hlt), ps[m], _, 0, .str "power", rfl, rfl, ht, rfl, rfl, _, rfl, ?_⟩
        rw [decide_eq_false (show ¬ (V.str "power" = V.str "text") by decide +kernel)]
        refine iteT ?_
        refine ⟨_, rfl, _, rfl, a, _, _, _, rfl, rfl, hA, atI_nat (refs_at hlt), ?_⟩
        refine ⟨_, rfl, _, rfl, ps[m], _, 1, .int (i : Int), rfl, rfl, ht, rfl, b, _, _, _, rfl, rfl, hB, atI_nat (sizes_at (by omega)), ?_⟩
        refine ⟨_, rfl, ps[m], _, 0, .str "power", rfl, rfl, ht, rfl, rfl, _, rfl, ?_⟩
        rw [decide_eq_true rfl]
        refine iteT ?_
        refine ⟨_, rfl, ps[m], _, 1, .int (i : Int), rfl, rfl, ht, rfl, _, rfl, .inl ⟨_, rfl, _, rfl, _, _, rfl, rfl, (show ((Z ss i : Nat) : Int) ≠ 0 by omega), _, _, rfl, ?_⟩⟩
        have ec : V.int (Int.fmod (y : Int) (Z ss i : Int)) = V.int ((y % Z ss i : Nat) : Int) := congrArg V.int (by rw [Int.fmod_eq_emod_of_nonneg _ (by omega)]; rfl)
        refine ⟨⟨i, y % Z ss i, some (.ref ps[m]), some (.int (Z ss i : Int)), ?_, s1, by omega, hp.symm⟩, ?_⟩
        · show [some (V.ref a), some (V.ref b), some (V.int (i : Int)), some (V.int (Int.fmod (y : Int) (Z ss i : Int))), some (V.ref ps[m]), some (V.int (Z ss i : Int))] = _
          rw [ec]
        · show ((i : Nat) : Int).toNat < ((m : Nat) : Int).toNat
          omega
    · rintro σ H1 Q1 Q2 hQ ⟨v, e, v2, e2, a', xs, i', y', ex, ey, hs, hv, p', ys, j', z', ez, ew, hs2, hv2, hsc, c', ec, hq⟩
      exact ⟨v, e, v2, e2, a', xs, i', y', ex, ey, hs, hv, p', ys, j', z', ez, ew, hs2, hv2, hsc, c', ec, hQ _ _ hq⟩
/-! ### moved, by the law -/
def spMoved : Sp := fun vs H Q _ => ∃ (a : Addr) (ss : List Stp) (m : Nat), vs = [.ref a, .int (m : Int)] ∧ LstS H a ss ∧ ss.length ≤ 1000 ∧ ∀ p H', Same H H' → LstS H' p (ss.map (shift m)) → Q (.ref p) H'
abbrev nMoved : List Str := ["_law_steps", "_law_much", "_law_found", "_law_step"]
theorem scMoved : FnScope nMoved ["_law_steps", "_law_much"] (defScope sMoved) := ⟨rfl, rfl, rfl, by decide +kernel, rfl, by decide +kernel, by decide +kernel⟩
theorem ok_moved {f : Addr} {fd : FuncData} (F : Fun K "_law_moved" "_law_moved" sMoved f fd) (T : Txt K mg) : FnOk P w K mg base CX0 1 f fd ["_law_steps", "_law_much"] spMoved := by
  refine F.ok scMoved (fun vs H Q E h => ?_) (fun cdv A outer s H vs Q E hr h => ?_)
  · obtain ⟨a, ss, m, rfl, _⟩ := h
    rfl
  · obtain ⟨a, ss, m, rfl, ⟨ps, ea, hps⟩, hl, q⟩ := h
    refine ⟨_, pss_cons (ps_set (i := 2) scMoved.nd rfl (Or.inl rfl) (pe_lst pa_nil))
      (pss_cons (ps_for PassesOwn.never rfl (pi_list (pv 0)) (pg_name (i := 3) scMoved.nd rfl (Or.inl rfl))
        (pss_one (ps_if (pt_cmpR op_eq (pe_ix ix_tup (pv 3) pe_int (fun _ _ => rfl)) pe_str (nomark _))
          (pss_one (ps_expr (pe_bm PySem.F.plainAttrs_list PySem.F.slot_list_append PySem.F.type_list_append mt_append (pv 2) (pa_cons (pv 3) pa_nil))))
          (pss_one (ps_expr (pe_bm PySem.F.plainAttrs_list PySem.F.slot_list_append PySem.F.type_list_append mt_append (pv 2) (pa_cons (pe_tup (pa_cons (pe_ix ix_tup (pv 3) pe_int (fun _ _ => rfl)) (pa_cons (pe_op op_add (pe_ix ix_tup (pv 3) pe_int (fun _ _ => rfl)) (pv 1))
            (pa_cons (pe_ifExp (pt_cmpR op_eq (pe_ix ix_tup (pv 3) pe_int (fun _ _ => rfl)) pe_str (nomark _)) (pe_op op_add (pe_ix ix_tup (pv 3) pe_int (fun _ _ => rfl)) (pv 1)) (pe_ix ix_tup (pv 3) pe_int (fun _ _ => rfl))) pa_nil)))) pa_nil)))))))
      (pss_one (ps_ret (pv 2)))), ?_⟩
    have lps := steps_len hps
    refine ⟨Nat.zero_le _, fun D nD => ?_⟩
    have sD := same_upd (o := .lst []) nD
    refine ⟨_, rfl, a, rfl, ⟨_, SqL.of (sD _ _ ea)⟩, ?_⟩
    refine for_list (xs := ps.map V.ref) (fun i σ H1 => ∃ t3 : Option V, σ = [some (.ref a), some (.int (m : Int)), some (.ref D), t3] ∧ Same H H1 ∧ LstS H1 D ((ss.take i).map (shift m)))
      ⟨none, rfl, sD, [], upd_same, .nil⟩ (fun i σ H1 _ z => by obtain ⟨_, _, s1, _⟩ := z; exact SqL.of (s1 _ _ ea)) ?_ ?_
    · rintro i x σ H1 hx ⟨t3, rfl, s1, qs, e1, hqs⟩
      have hi := (List.getElem?_eq_some_iff.mp hx).1
      rw [List.length_map] at hi
      rw [refs_at hi] at hx
      cases hx
      obtain ⟨st, hst, hat⟩ := steps_at (hps.keep (.same s1)) i hi
      have ht : SqT K H1 ps[i] (svals st) := SqT.of hat
      have lq := steps_len hqs
      have lenD : (qs.map V.ref).length < sizeLine := by
        rw [List.length_map, lq, List.length_map, List.length_take]
        exact Nat.lt_of_le_of_lt (show _ ≤ 1000 by omega) (by decide)
      have et : (ss.take (i + 1)).map (shift m) = (ss.take i).map (shift m) ++ [shift m st] := by
        rw [List.take_add_one, hst, List.map_append]
        rfl
      have fin : ∀ (p : Addr) (H2 : Hp), Same H1 H2 → StpAt H2 p (shift m st) → LstS (upd H2 D (.lst (qs.map V.ref ++ [V.ref p]))) D ((ss.take (i + 1)).map (shift m)) := fun p H2 s2 h2 => by
        rw [et]
        exact LstS.add (s2 _ _ e1) (hqs.keep (.same s2)) h2
      cases st with
      | txt z =>
        refine ⟨_, rfl, ps[i], _, 0, .str "text", rfl, rfl, ht, rfl, rfl, _, rfl, ?_⟩
        rw [decide_eq_true rfl]
        refine iteT ?_
        exact ⟨_, rfl, .inl ⟨rfl, _, SqL.of e1⟩, _, rfl, D, _, _, rfl, rfl, e1, lenD, _, rfl, same_put s1 nD, fin ps[i] H1 (Same.refl _) hat⟩
      | join b c =>
        refine ⟨_, rfl, ps[i], _, 0, .str "join", rfl, rfl, ht, rfl, rfl, _, rfl, ?_⟩
        rw [decide_eq_false (show ¬ (V.str "join" = V.str "text") by decide +kernel)]
        refine iteF ?_
        refine ⟨_, rfl, .inl ⟨rfl, _, SqL.of e1⟩, _, rfl, ps[i], _, 0, .str "join", rfl, rfl, ht, rfl, _, rfl, ps[i], _, 1, .int (b : Int), rfl, rfl, ht, rfl, _, rfl, _, _, rfl, rfl, _, rfl, ps[i], _, 0, .str "join", rfl, rfl, ht, rfl, rfl, _, rfl, ?_⟩
        rw [decide_eq_true rfl]
        refine iteT ?_
        refine ⟨_, rfl, ps[i], _, 2, .int (c : Int), rfl, rfl, ht, rfl, _, rfl, _, _, rfl, rfl, (by show 3 ≤ sizeLine; decide), fun p np => ?_⟩
        have s2 := same_upd (o := .tup [V.str "join", V.int ((b : Int) + (m : Int)), V.int ((c : Int) + (m : Int))]) np
        refine ⟨D, _, _, rfl, rfl, s2 _ _ e1, lenD, _, rfl, same_put (s1.trans s2) nD, fin p _ s2 ?_⟩
        have ea1 := add_cast b m
        have ea2 := add_cast c m
        show upd H1 p (.tup [V.str "join", V.int ((b : Int) + (m : Int)), V.int ((c : Int) + (m : Int))]) p = some (.tup [V.str "join", V.int ((b + m : Nat) : Int), V.int ((c + m : Nat) : Int)])
        rw [upd_same, ea1, ea2]
      | pow b k =>
        refine ⟨_, rfl, ps[i], _, 0, .str "power", rfl, rfl, ht, rfl, rfl, _, rfl, ?_⟩
        rw [decide_eq_false (show ¬ (V.str "power" = V.str "text") by decide +kernel)]
        refine iteF ?_
        refine ⟨_, rfl, .inl ⟨rfl, _, SqL.of e1⟩, _, rfl, ps[i], _, 0, .str "power", rfl, rfl, ht, rfl, _, rfl, ps[i], _, 1, .int (b : Int), rfl, rfl, ht, rfl, _, rfl, _, _, rfl, rfl, _, rfl, ps[i], _, 0, .str "power", rfl, rfl, ht, rfl, rfl, _, rfl, ?_⟩
        rw [decide_eq_false (show ¬ (V.str "power" = V.str "join") by decide +kernel)]
        refine iteF ?_
        refine ⟨_, rfl, ps[i], _, 2, .int (k : Int), rfl, rfl, ht, rfl, (by show 3 ≤ sizeLine; decide), fun p np => ?_⟩
        have s2 := same_upd (o := .tup [V.str "power", V.int ((b : Int) + (m : Int)), V.int (k : Int)]) np
        refine ⟨D, _, _, rfl, rfl, s2 _ _ e1, lenD, _, rfl, same_put (s1.trans s2) nD, fin p _ s2 ?_⟩
        have ea1 := add_cast b m
        show upd H1 p (.tup [V.str "power", V.int ((b : Int) + (m : Int)), V.int (k : Int)]) p = some (.tup [V.str "power", V.int ((b + m : Nat) : Int), V.int (k : Int)])
        rw [upd_same, ea1]
    · rintro σ H1 ⟨t3, rfl, s1, hqs⟩
      rw [List.length_map, List.take_of_length_le (by omega)] at hqs
      exact ⟨_, rfl, q D H1 s1 hqs⟩
end
end K58

set_option Elab.async false
set_option linter.all false
set_option maxRecDepth 100000
set_option maxHeartbeats 3200000
namespace K58
open PySem L2 Tx Tg Tm Sm
/-! ### what the steps come to -/
theorem over_L {sg : Str} {ss : List Stp} (h : okStps sg ss) : ∀ i, i < ss.length → ∀ c ∈ L ss i, c ∈ cds sg := by
  intro i
  induction i using Nat.strongRecOn with
  | _ i ih =>
    intro hi c hc
    have hs := List.getElem?_eq_getElem hi
    have ok := h i _ hs
    rw [L_at h.good hs] at hc
    generalize ss[i] = s at hs ok hc
    cases s with
    | txt z => exact ok.1 c hc
    | join a b =>
      rcases List.mem_append.mp (show c ∈ L ss a ++ L ss b from hc) with hc | hc
      · exact ih a ok.1 (by have := ok.1; omega) c hc
      · exact ih b ok.2 (by have := ok.2; omega) c hc
    | pow a k =>
      have hc : c ∈ (List.replicate k (L ss a)).flatten := hc
      obtain ⟨l, hl, hc⟩ := List.mem_flatten.mp hc
      rw [(List.mem_replicate.mp hl).2] at hc
      exact ih a ok.1 (by have := ok.1; omega) c hc
theorem over_tx {sg : Str} {ss : List Stp} (h : okStps sg ss) {i : Nat} (hi : i < ss.length) : Over sg (tx (L ss i)) := over_L h i hi
theorem L_mid {ss tt : List Stp} (g : Good tt) {j : Nat} (h : j < tt.length) : L (ss ++ tt.map (shift ss.length)) (ss.length + j) = L tt j := by
  unfold L
  rw [lines_shift ss tt.length rfl g, List.getD_eq_getElem?_getD, List.getElem?_append_right (by rw [lines_len]; omega), lines_len, Nat.add_sub_cancel_left, ← List.getD_eq_getElem?_getD]
theorem joined_len (ss tt : List Stp) : (joined ss tt).length = ss.length + tt.length + 1 := by
  unfold joined
  rw [List.length_append, List.length_append, List.length_map]
  rfl
theorem L_joined {ss tt : List Stp} (g : Good tt) (h1 : 1 ≤ ss.length) (h2 : 1 ≤ tt.length) : L (joined ss tt) (ss.length + tt.length) = L ss (ss.length - 1) ++ L tt (tt.length - 1) := by
  have hl : (ss ++ tt.map (shift ss.length)).length = ss.length + tt.length := by rw [List.length_append, List.length_map]
  unfold joined
  rw [← hl, L_last, hl]
  show L _ (ss.length - 1) ++ L _ (ss.length + tt.length - 1) = _
  rw [L_app (by omega), show ss.length + tt.length - 1 = ss.length + (tt.length - 1) by omega, L_mid g (by omega)]
theorem Z_joined {ss tt : List Stp} (g : Good tt) (h1 : 1 ≤ ss.length) (h2 : 1 ≤ tt.length) {A B : Nat} (hA : ∀ i, i < ss.length → Z ss i ≤ A) (hB : ∀ i, i < tt.length → Z tt i ≤ B) : ∀ i, i < (joined ss tt).length → Z (joined ss tt) i ≤ A + B := by
  intro i hi
  rw [joined_len] at hi
  have hl : (ss ++ tt.map (shift ss.length)).length = ss.length + tt.length := by rw [List.length_append, List.length_map]
  by_cases h3 : i = ss.length + tt.length
  · unfold Z
    rw [h3, L_joined g h1 h2, List.length_append]
    have := hA (ss.length - 1) (by omega)
    have := hB (tt.length - 1) (by omega)
    unfold Z at *
    omega
  · have e : L (joined ss tt) i = L (ss ++ tt.map (shift ss.length)) i := L_app (by omega)
    unfold Z
    rw [e]
    by_cases h4 : i < ss.length
    · rw [L_app h4]
      have := hA i h4
      unfold Z at this
      omega
    · obtain ⟨j, rfl⟩ : ∃ j, i = ss.length + j := ⟨i - ss.length, by omega⟩
      rw [L_mid g (by omega)]
      have := hB j (by omega)
      unfold Z at this
      omega
theorem ok_join2 {sg : Str} {ss tt : List Stp} (h : okStps sg ss) (k : okStps sg tt) (h1 : 1 ≤ ss.length) (h2 : 1 ≤ tt.length) : okStps sg (joined ss tt) := by
  unfold joined
  refine okStps.snoc (fun i s e => ?_) ⟨?_, ?_⟩
  · by_cases hi : i < ss.length
    · rw [List.getElem?_append_left hi] at e
      exact h i s e
    · rw [List.getElem?_append_right (by omega), List.getElem?_map] at e
      cases ht : tt[i - ss.length]? with
      | none => rw [ht] at e; cases e
      | some t =>
        rw [ht] at e
        cases e
        have := k _ _ ht
        cases t with
        | txt z => exact this
        | join a b => exact ⟨show a + ss.length < i by have := this.1; omega, show b + ss.length < i by have := this.2; omega⟩
        | pow a c => exact ⟨show a + ss.length < i by have := this.1; omega, this.2⟩
  · rw [List.length_append, List.length_map]
    omega
  · rw [List.length_append, List.length_map]
    omega
theorem big4 : (4000 : Nat) < 10 ^ 400 := by decide +kernel
theorem okP_of {sg : Str} {ss : List Stp} (h : okStps sg ss) (h1 : 1 ≤ ss.length) (h2 : ss.length ≤ 40) (hz : ∀ i, i < ss.length → Z ss i ≤ 4000) : okP sg ss := ⟨h, h1, h2, fun i hi => Nat.lt_of_le_of_lt (hz i hi) big4⟩
theorem small_Z {sg : Str} {ss : List Stp} {n : Nat} (h : Drawn sg 3 ss) (hl : ss.length ≤ n + 1) : ∀ i, i < ss.length → Z ss i ≤ 4 * 3 ^ n := fun i hi =>
  Nat.le_trans (h.grow (by decide) i hi) (Nat.mul_le_mul_left _ (Nat.pow_le_pow_right (by decide) (by omega)))
theorem pow_len (ss : List Stp) (k : Nat) : (ss ++ [Stp.pow (ss.length - 1) k]).length = ss.length + 1 := by
  rw [List.length_append]
  rfl
theorem L_powed {ss : List Stp} (k : Nat) (h1 : 1 ≤ ss.length) : L (ss ++ [Stp.pow (ss.length - 1) k]) ss.length = rep k (L ss (ss.length - 1)) := L_last ss _
theorem Z_powed {ss : List Stp} {k A : Nat} (h1 : 1 ≤ ss.length) (hk : k ≤ 2) (hA : ∀ i, i < ss.length → Z ss i ≤ A) : ∀ i, i < (ss ++ [Stp.pow (ss.length - 1) k]).length → Z (ss ++ [Stp.pow (ss.length - 1) k]) i ≤ 2 * A := by
  intro i hi
  rw [pow_len] at hi
  unfold Z
  by_cases h : i < ss.length
  · rw [L_app h]
    have := hA i h
    unfold Z at this
    omega
  · have : i = ss.length := by omega
    rw [this, L_powed k h1, rep_len]
    have := hA (ss.length - 1) (by omega)
    unfold Z at this
    exact Nat.mul_le_mul hk this
theorem ok_powed {sg : Str} {ss : List Stp} {k : Nat} (h : okStps sg ss) (h1 : 1 ≤ ss.length) (hk : k ≤ 10 ^ 100) : okStps sg (ss ++ [Stp.pow (ss.length - 1) k]) := h.snoc ⟨by omega, hk⟩
theorem ne_joined {ss tt : List Stp} : ss ≠ joined ss tt := fun e => by
  have := congrArg List.length e
  rw [joined_len] at this
  omega
/-! ### shown -/
structure Sh (n w : Nat) (d : PyData) : Prop where
  lay : d.canLay0 = true
  sh : d.showable = true
  sht : d.intsShort 20 = true
  dp : d.depth ≤ n
  wt : d.weight ≤ w
structure ShA (n w : Nat) (ds : List PyData) : Prop where
  lay : PyData.canLayAll0 ds = true
  sh : PyData.showableAll ds = true
  sht : PyData.intsShortAll 20 ds = true
  dp : PyData.depthAll ds ≤ n
  wt : PyData.weightAll ds ≤ w
theorem Sh.str {z : Str} {w : Nat} (h : plainS z) (hl : z.length ≤ w) : Sh 0 w (.str z) := ⟨lay_str h, rfl, rfl, Nat.le_refl _, hl⟩
theorem int_facts : ∀ m < 1001, (PyData.showable (.int ((m : Nat) : Int)) && PyData.intsShort 20 (.int ((m : Nat) : Int)) && decide (PyData.weight (.int ((m : Nat) : Int)) ≤ 12)) = true := by decide +kernel
theorem Sh.int {m w : Nat} (h : m ≤ 1000) (hw : 12 ≤ w) : Sh 0 w (.int (m : Int)) := by
  have := int_facts m (by omega)
  rw [Bool.and_eq_true, Bool.and_eq_true, decide_eq_true_iff] at this
  exact ⟨rfl, this.1.1, this.1.2, Nat.le_refl _, Nat.le_trans this.2 hw⟩
theorem ShA.nil {n w : Nat} : ShA n w [] := ⟨rfl, rfl, rfl, Nat.zero_le _, Nat.zero_le _⟩
theorem ShA.cons {n m w v x : Nat} {d : PyData} {ds : List PyData} (h : Sh m v d) (k : ShA n w ds) (hm : m ≤ n) (hw : v + 1 + w ≤ x) : ShA n x (d :: ds) where
  lay := by show (d.canLay0 && PyData.canLayAll0 ds) = true; rw [h.lay, k.lay]; rfl
  sh := by show (d.showable && PyData.showableAll ds) = true; rw [h.sh, k.sh]; rfl
  sht := by show (d.intsShort 20 && PyData.intsShortAll 20 ds) = true; rw [h.sht, k.sht]; rfl
  dp := Nat.max_le.mpr ⟨Nat.le_trans h.dp hm, k.dp⟩
  wt := by show d.weight + 1 + PyData.weightAll ds ≤ x; have := h.wt; have := k.wt; omega
theorem ShA.tup {n w : Nat} {ds : List PyData} (h : ShA n w ds) : Sh (n + 1) w (.tuple ds) := ⟨h.lay, h.sh, h.sht, Nat.succ_le_succ h.dp, h.wt⟩
theorem ShA.lst {n w : Nat} {ds : List PyData} (h : ShA n w ds) : Sh (n + 1) w (.list ds) := ⟨h.lay, h.sh, h.sht, Nat.succ_le_succ h.dp, h.wt⟩
theorem Sh.len {n w : Nat} {d : PyData} (h : Sh n w d) (hw : w ≤ 200000) : d.shown.length ≤ sizeLine := by
  have h2 := PyData.shown_le 20 (by decide) d (PyData.leavesShort_of_canLay0 20 d h.lay h.sht)
  have := h.wt
  exact Nat.le_trans h2 (Nat.le_trans (show _ ≤ 22 * 200000 + 20 by omega) (by decide))
theorem Sh.shaped {n w : Nat} {d : PyData} (h : Sh n w d) (hn : n ≤ 60) : SeqAt.shaped d = true := by
  unfold SeqAt.shaped
  rw [Bool.and_eq_true]
  have := h.dp
  exact ⟨h.lay, decide_eq_true (by omega)⟩
theorem word_plain : plainS "text" ∧ plainS "join" ∧ plainS "power" := by unfold plainS; decide +kernel
/-- a step of a small program -/
def tame : Stp → Prop
  | .txt z => plainS z ∧ z.length ≤ 100
  | .join i j => i ≤ 1000 ∧ j ≤ 1000
  | .pow i k => i ≤ 1000 ∧ k ≤ 1000
theorem Sh.stp {s : Stp} (h : tame s) : Sh 1 120 (stpD s) := by
  obtain ⟨w1, w2, w3⟩ := word_plain
  cases s with
  | txt z => exact ShA.tup (ShA.cons (n := 0) (w := 101) (Sh.str (w := 10) w1 (by decide +kernel)) (ShA.cons (n := 0) (w := 0) (Sh.str h.1 h.2) ShA.nil (Nat.le_refl _) (by omega)) (Nat.le_refl _) (by omega))
  | join i j => exact ShA.tup (ShA.cons (n := 0) (w := 26) (Sh.str (w := 10) w2 (by decide +kernel)) (ShA.cons (n := 0) (w := 13) (Sh.int (w := 12) h.1 (by omega)) (ShA.cons (n := 0) (w := 0) (Sh.int (w := 12) h.2 (by omega)) ShA.nil (Nat.le_refl _) (by omega)) (Nat.le_refl _) (by omega)) (Nat.le_refl _) (by omega))
  | pow i j => exact ShA.tup (ShA.cons (n := 0) (w := 26) (Sh.str (w := 10) w3 (by decide +kernel)) (ShA.cons (n := 0) (w := 13) (Sh.int (w := 12) h.1 (by omega)) (ShA.cons (n := 0) (w := 0) (Sh.int (w := 12) h.2 (by omega)) ShA.nil (Nat.le_refl _) (by omega)) (Nat.le_refl _) (by omega)) (Nat.le_refl _) (by omega))
theorem ShA.stps : ∀ {ss : List Stp}, (∀ s ∈ ss, tame s) → ShA 1 (121 * ss.length) (stpsD ss)
  | [], _ => ShA.nil
  | s :: ss, h => ShA.cons (Sh.stp (h s List.mem_cons_self)) (ShA.stps fun t ht => h t (List.mem_cons_of_mem _ ht)) (Nat.le_refl _) (by rw [List.length_cons]; omega)
theorem Sh.row {ss : List Stp} (h : ∀ s ∈ ss, tame s) (hl : ss.length ≤ 100) : Sh 2 12100 (.tuple (stpsD ss)) := by
  have := (ShA.stps h).tup
  exact ⟨this.lay, this.sh, this.sht, this.dp, Nat.le_trans this.wt (by omega)⟩
theorem tame_of {sg : Str} {ss : List Stp} (hsg : Signs sg) (h : okStps sg ss) (hl : ss.length ≤ 100) (hk : ∀ i k, Stp.pow i k ∈ ss → k ≤ 1000) : ∀ s ∈ ss, tame s := fun s hs => by
  obtain ⟨i, hi⟩ := List.mem_iff_getElem?.mp hs
  have hi2 := (List.getElem?_eq_some_iff.mp hi).1
  have ok := h i s hi
  cases s with
  | txt z => exact ⟨over_plain hsg ok.1, ok.2⟩
  | join a b => exact ⟨by have := ok.1; omega, by have := ok.2; omega⟩
  | pow a k => exact ⟨by have := ok.1; omega, hk a k hs⟩
theorem plain_tx {sg : Str} {ss : List Stp} (hsg : Signs sg) (h : okStps sg ss) {i : Nat} (hi : i < ss.length) : plainS (tx (L ss i)) := over_plain hsg (over_tx h hi)
theorem sg_plain {sg : Str} (h : Signs sg) : plainS sg := fun c hc => by have := sg_range h c hc; omega
theorem plain_app {a b : Str} (h : plainS a) (k : plainS b) : plainS (a ++ b) := fun c hc => by
  rw [cds_app] at hc
  rcases List.mem_append.mp hc with hc | hc
  · exact h c hc
  · exact k c hc
theorem told_parts : plainS "program of " ∧ plainS " steps over " ∧ ∀ n < 41, plainS ((toString ((n : Nat) : Int) : String) : Str) := by unfold plainS; decide +kernel
theorem told_plain {n : Nat} {sg : Str} (h : Signs sg) (hn : n ≤ 40) : plainS (toldP n sg) ∧ (toldP n sg).length ≤ 60 := by
  obtain ⟨t1, t2, t3⟩ := told_parts
  refine ⟨plain_app (plain_app (plain_app t1 (t3 n (by omega))) t2) (sg_plain h), ?_⟩
  have l1 : ("program of " : Str).length = 11 := by decide +kernel
  have l2 : (" steps over " : Str).length = 12 := by decide +kernel
  have := (small_text n (by omega)).1
  have := (sg_len h).2
  unfold toldP
  rw [str_len, str_len, str_len, l1, l2]
  omega
/-! ### data that is equal to itself -/
theorem eqv_strs2 (a b : Str) : PyData.eqv (.list [.str a, .str b]) (.list [.str a, .str b]) = true := by
  show (PyData.eqv (.str a) (.str a) && (PyData.eqv (.str b) (.str b) && true)) = true
  rw [eqv_str, eqv_str, decide_eq_true rfl, decide_eq_true rfl]
  rfl
end K58

set_option Elab.async false
set_option linter.all false
set_option maxRecDepth 100000
set_option maxHeartbeats 3200000
namespace K58
open PySem L2 Tx Tg Tm Sm
/-- the class, as the law sees it -/
structure Cl (P : Program) (w : World) (K : PySem.W.Frag) (mg : Str → Option Value) (base : Heap) (C : Addr) where
  W : WP K mg C
  (fI fLe fSt fSi fTx fLn fEq fSr fIx fAd fPw pL pS pZ pO gO : Addr)
  (dI dLe dSt dSi dTx dLn dEq dSr dIx dAd dPw : FuncData)
  (mc : Value)
  MK : MkP P w K mg base C fI dI
  gLe : FnOk P w K mg base CX0 1 fLe dLe ["self"] (spPLet C)
  gSt : FnOk P w K mg base CX0 1 fSt dSt ["self"] (spPSteps C)
  gSi : FnOk P w K mg base CX0 1 fSi dSi ["self"] (spPSize C)
  gTx : FnOk P w K mg base CX0 4 fTx dTx ["self"] (spPText C)
  gLn : FnOk P w K mg base CX0 1 fLn dLn ["self"] (spPLen C)
  gEq : FnOk P w K mg base CX0 1 fEq dEq ["self", "other"] (spPEq C)
  gEqX : FnOk P w K mg base CX0 1 fEq dEq ["self", "other"] (spPEqX K C)
  gSr : FnOk P w K mg base CX0 1 fSr dSr ["self"] (spPStr C)
  gIx : FnOk P w K mg base CX0 3 fIx dIx ["self", "at"] (spPIx C)
  gAd : FnOk P w K mg base CX0 10 fAd dAd ["self", "other"] (spPAdd C)
  gPw : FnOk P w K mg base CX0 10 fPw dPw ["self", "number"] (spPPower C)
  bLe : Binds K dLe ["self"] []
  bSt : Binds K dSt ["self"] []
  bSi : Binds K dSi ["self"] []
  bTx : Binds K dTx ["self"] []
  bLn : Binds K dLn ["self"] []
  bEq : Binds K dEq ["self", "other"] []
  bSr : Binds K dSr ["self"] []
  bIx : Binds K dIx ["self", "at"] []
  bAd : Binds K dAd ["self", "other"] []
  bPw : Binds K dPw ["self", "number"] []
  sf : PySem.W.selfFirst K C = true
  nf : PySem.W.notFirst K C (.ref C) = true
  ob : PySem.W.subIn K (.ref C) (.type "object") = some true
  sEq : PySem.W.findIn K (.ref C) "__eq__" = some (some (.ref fEq))
  sNe : PySem.W.findIn K (.ref C) "__ne__" = some (some (.builtin "object.__ne__"))
  sLn : PySem.W.findIn K (.ref C) "__len__" = some (some (.ref fLn))
  sIx : PySem.W.findIn K (.ref C) "__getitem__" = some (some (.ref fIx))
  sSr : PySem.W.findIn K (.ref C) "__str__" = some (some (.ref fSr))
  sAd : PySem.W.findIn K (.ref C) "__add__" = some (some (.ref fAd))
  fnEq : PySem.W.isFn K (.ref fEq) = true
  fnLn : PySem.W.isFn K (.ref fLn) = true
  fnIx : PySem.W.isFn K (.ref fIx) = true
  fIxI : PySem.W.fnIn K fIx = true
  fnSr : PySem.W.isFn K (.ref fSr) = true
  fnAd : PySem.W.isFn K (.ref fAd) = true
  mTx : Meth K C "text" fTx
  mPw : Meth K C "power" fPw
  pLe : PropOf K C "letters" pL fLe
  pSt : PropOf K C "steps" pS fSt
  pSi : PropOf K C "size" pZ fSi
  rd : ClX.CRead K C mc
  cm : ClX.CMet K C mc "of" pO gO
  gOf : FnR P w K mg base CX0 9 gO (spPOf C)
structure Off (K : PySem.W.Frag) (C : Addr) (T : String) : Prop where
  n : PySem.W.notFirst K C (.type T) = true
  k : PySem.W.kitOne K (.type T) (.ref C) = some false
/-! ### readings -/
def EvV (te : TE) (σ : L2.St) (H0 : Hp) (v : V) : Prop := ∀ H, Same H0 H → ∀ Q : VK, (∀ H', Same H H' → Q v H') → te σ H Q
def EvP (C : Addr) (te : TE) (σ : L2.St) (H0 : Hp) (sg : Str) (ss : List Stp) : Prop := ∀ H, Same H0 H → ∀ Q : VK, (∀ p H', Same H H' → ProgAt C H' p sg ss → Q (.ref p) H') → te σ H Q
def EvR (te : TE) (σ : L2.St) (H0 : Hp) (ss : List Stp) : Prop := ∀ H, Same H0 H → ∀ Q : VK, (∀ p H', Same H H' → RowS H' p ss → Q (.ref p) H') → te σ H Q
def EvL (te : TE) (σ : L2.St) (H0 : Hp) (ss : List Stp) : Prop := ∀ H, Same H0 H → ∀ Q : VK, (∀ p H', Same H H' → LstS H' p ss → Q (.ref p) H') → te σ H Q
def EvS (te : TE) (σ : L2.St) (H0 : Hp) (s : Stp) : Prop := ∀ H, Same H0 H → ∀ Q : VK, (∀ p H', Same H H' → StpAt H' p s → Q (.ref p) H') → te σ H Q
def EvF (t : TT) (σ : L2.St) (H0 : Hp) : Prop := ∀ H, Same H0 H → ∀ D : Bool → Hp → Prop, (∀ H', Same H H' → D false H') → t σ H D
section
variable (K : PySem.W.Frag)
def EvD (t : TE) (σ : L2.St) (H0 : Hp) (d : PyData) : Prop := ∀ H, Same H0 H → ∀ Q : VK, (∀ v H', Same H H' → (∀ H'', Same H' H'' → Dp K H'' v d) → Q v H') → t σ H Q
def EvDs (t : TA) (σ : L2.St) (H0 : Hp) (ds : List PyData) : Prop := ∀ H, Same H0 H → ∀ Q : List V → Hp → Prop, (∀ xs H', Same H H' → (∀ H'', Same H' H'' → DpAll K H'' xs ds) → Q xs H') → t σ H Q
end
theorem dpAll_len {K : PySem.W.Frag} {H : Hp} : ∀ {xs : List V} {ds : List PyData}, DpAll K H xs ds → xs.length = ds.length
  | _, _, .nil => rfl
  | _, _, .cons _ h => congrArg (· + 1) (dpAll_len h)
section
variable {K : PySem.W.Frag} {C : Addr} {σ : L2.St} {H0 H : Hp} {sg : Str} {ss tt : List Stp} {s : Stp} {t ta tb tc : TE} {as : TA} {x y v : V} {z : Str} {a b m n w : Nat} {p q : TT} {us : TS} {D : Ends} {d : PyData} {ds : List PyData} {i : Nat} {ad : Addr} {r : R2}
theorem ev_var (hi : σ[i]? = some (some x)) : EvV (tVar i) σ H0 x := fun H s Q q => ⟨_, hi, q H (Same.refl H)⟩
theorem ev_c : EvV (tC x) σ H0 x := fun H s Q q => q H (Same.refl H)
theorem ep_var (hi : σ[i]? = some (some (.ref ad))) (h : ProgAt C H0 ad sg ss) : EvP C (tVar i) σ H0 sg ss := fun H s Q q => ⟨_, hi, q ad H (Same.refl H) (h.same s)⟩
theorem el_var (hi : σ[i]? = some (some (.ref ad))) (h : LstS H0 ad ss) : EvL (tVar i) σ H0 ss := fun H s Q q => ⟨_, hi, q ad H (Same.refl H) (h.same s)⟩
theorem ev_op (e1 : EvV ta σ H0 x) (e2 : EvV tb σ H0 y) (hr : ∀ H Q, Q v H → r x y H Q) : EvV (tOp r ta tb) σ H0 v := fun H s Q q => e1 H s _ fun H1 s1 => e2 H1 (s.trans s1) _ fun H2 s2 => hr _ _ (q H2 (s1.trans s2))
theorem ev_cb {r : List V → Hp → VK → Prop} (e1 : EvV ta σ H0 x) (hr : ∀ H Q, Q v H → r [x] H Q) : EvV (tCB r (tCons ta tNil)) σ H0 v := fun H s Q q => e1 H s _ fun H1 s1 => hr _ _ (q H1 s1)
theorem er_tuple (e : EvL ta σ H0 ss) : EvR (tCB (fun xs H Q => ∃ p ys, xs = [.ref p] ∧ ((SqL K H p ys ∧ ∀ l, H l = none → Q (.ref l) (upd H l (.tup ys))) ∨ (SqT K H p ys ∧ Q (.ref p) H))) (tCons ta tNil)) σ H0 ss := fun H s Q q =>
  e H s _ fun p H1 s1 ⟨ps, ep, hp⟩ => ⟨p, _, rfl, .inl ⟨SqL.of ep, fun r nr => q r _ (s1.trans (same_upd nr)) ⟨ps, upd_same, hp.keep (.same (same_upd nr))⟩⟩⟩
theorem ep_make (e1 : EvV ta σ H0 (.str sg)) (e2 : EvR tb σ H0 ss) (hsg : Signs sg) (ok : okP sg ss) : EvP C (tMake C (spPInit C) [] E0 (tCons ta (tCons tb tNil))) σ H0 sg ss := fun H s Q q => e1 H s _ fun H1 s1 => e2 H1 (s.trans s1) _ fun p H2 s2 h2 => made_tail hsg h2 ok fun x H3 s3 h3 => q x H3 ((s1.trans s2).trans s3) h3
theorem ev_letters (e : EvP C ta σ H0 sg ss) : EvV (tProp C (spPLet C) [] E0 ta) σ H0 (.str sg) := fun H s Q q => e H s _ fun p H1 s1 h1 => let ⟨dx, _, _, hp, _⟩ := id h1; ⟨p, dx, _, rfl, hp, p, sg, ss, rfl, h1, q H1 s1⟩
theorem er_steps (e : EvP C ta σ H0 sg ss) : EvR (tProp C (spPSteps C) [] E0 ta) σ H0 ss := fun H s Q q => e H s _ fun p H1 s1 h1 => let ⟨dx, _, _, hp, _⟩ := id h1; ⟨p, dx, _, rfl, hp, p, sg, ss, rfl, h1, fun a ha => q a H1 s1 ha⟩
theorem ev_size (e : EvP C ta σ H0 sg ss) (h1 : 1 ≤ ss.length) : EvV (tProp C (spPSize C) [] E0 ta) σ H0 (.int (Z ss (ss.length - 1) : Int)) := fun H s Q q => e H s _ fun p H1 s1 hh => let ⟨dx, _, _, hp, _⟩ := id hh; ⟨p, dx, _, rfl, hp, p, sg, ss, rfl, hh, h1, q H1 s1⟩
theorem ev_text (e : EvP C ta σ H0 sg ss) (ok : okP sg ss) (hz : Z ss (ss.length - 1) ≤ 4000) : EvV (tMeth C "text" (spPText C) [] E0 ta tNil) σ H0 (.str (tx (L ss (ss.length - 1)))) := fun H s Q q => e H s _ fun p H1 s1 hh => let ⟨dx, _, _, hp, _⟩ := id hh; ⟨p, dx, _, rfl, hp, rfl, p, sg, ss, rfl, hh, ok, hz, fun H2 s2 => q H2 (s1.trans s2)⟩
theorem ev_len (e : EvP C ta σ H0 sg ss) (hl : ss.length ≤ 1000) : EvV (tCB (Ow.rLenOwn C (spPLen C) E0) (tCons ta tNil)) σ H0 (.int (ss.length : Nat)) := fun H s Q q => e H s _ fun p H1 s1 hh => let ⟨dx, _, _, hp, _⟩ := id hh; ⟨p, dx, _, rfl, hp, p, sg, ss, rfl, hh, _, rfl, by omega, by omega, q H1 s1⟩
theorem ev_str (e : EvP C ta σ H0 sg ss) (hsg : Signs sg) (hl : ss.length ≤ 40) : EvV (tCB (Ow.rStrOwn C (spPStr C) E0) (tCons ta tNil)) σ H0 (.str (toldP ss.length sg)) := fun H s Q q => e H s _ fun p H1 s1 hh => let ⟨dx, _, _, hp, _⟩ := id hh; ⟨p, dx, _, rfl, hp, p, sg, ss, rfl, hh, hsg, hl, _, rfl, q H1 s1⟩
theorem ep_add (e1 : EvP C ta σ H0 sg ss) (e2 : EvP C tb σ H0 sg tt) (hsg : Signs sg) (h1 : 1 ≤ ss.length) (h2 : 1 ≤ tt.length) (l1 : ss.length ≤ 100) (l2 : tt.length ≤ 100) (ok : okP sg (joined ss tt)) : EvP C (tOp (Ow.rOwn C (spPAdd C) E0) ta tb) σ H0 sg (joined ss tt) := fun H s Q q =>
  e1 H s _ fun p H1 s1 hp => e2 H1 (s.trans s1) _ fun o H2 s2 ho => by
    have hp := hp.same s2
    obtain ⟨dx, a, b, ep, _⟩ := id hp
    obtain ⟨dy, a', b', eo, _⟩ := id ho
    exact ⟨p, o, dx, dy, _, _, rfl, rfl, ep, eo, p, o, sg, ss, tt, rfl, hp, ho, hsg, h1, h2, l1, l2, ok, fun x H3 s3 h3 => q x H3 ((s1.trans s2).trans s3) h3⟩
theorem ep_power (e1 : EvP C ta σ H0 sg ss) (e2 : EvV tb σ H0 (.int (n : Int))) (hsg : Signs sg) (h1 : 1 ≤ ss.length) (hk : n ≤ 10 ^ 100) (l1 : ss.length ≤ 1000) (ok : okP sg (ss ++ [.pow (ss.length - 1) n])) : EvP C (tMeth C "power" (spPPower C) [] E0 ta (tCons tb tNil)) σ H0 sg (ss ++ [.pow (ss.length - 1) n]) := fun H s Q q =>
  e1 H s _ fun p H1 s1 hp => by
    obtain ⟨dx, a, b, ep, _⟩ := id hp
    exact ⟨p, dx, _, rfl, ep, rfl, e2 H1 (s.trans s1) _ fun H2 s2 => ⟨p, sg, ss, n, rfl, hp.same s2, hsg, h1, hk, l1, ok, fun x H3 s3 h3 => q x H3 ((s1.trans s2).trans s3) h3⟩⟩
theorem ep_of (e1 : EvV ta σ H0 (.str sg)) (e2 : EvV tb σ H0 (.str z)) (hsg : Signs sg) (hz : Over sg z) (hl : z.length ≤ 100) : EvP C (ClX.tCMeth C (spPOf C) E0 (tC (.ref C)) (tCons ta (tCons tb tNil))) σ H0 sg [.txt z] := fun H s Q q =>
  ⟨rfl, e1 H s _ fun H1 s1 => e2 H1 (s.trans s1) _ fun H2 s2 => ⟨sg, z, rfl, hsg, hz, hl, fun x H3 s3 h3 => q x H3 ((s1.trans s2).trans s3) h3⟩⟩
theorem el_cat (e1 : EvL ta σ H0 ss) (e2 : EvL tb σ H0 tt) (h1 : ss.length ≤ 1000) (h2 : tt.length ≤ 1000) : EvL (tOp rCat ta tb) σ H0 (ss ++ tt) := fun H s Q q =>
  e1 H s _ fun p H1 s1 ⟨ps, ep, hp⟩ => e2 H1 (s.trans s1) _ fun p2 H2 s2 ⟨qs, eq, hq⟩ => by
    have lp := steps_len hp
    have lq := steps_len hq
    refine ⟨p, p2, _, _, rfl, rfl, s2 _ _ ep, eq, ?_, fun r nr => ?_⟩
    · rw [List.length_map, List.length_map]
      exact Nat.le_trans (show _ ≤ 2000 by omega) (by decide)
    · have s3 := same_upd (o := .lst (ps.map V.ref ++ qs.map V.ref)) nr
      exact q r _ ((s1.trans s2).trans s3) ⟨ps ++ qs, by rw [upd_same, List.map_append], each_app (hp.keep ((KeepT.same s2).trans (.same s3))) (hq.keep (.same s3))⟩
theorem el_moved (e1 : EvL ta σ H0 ss) (e2 : EvV tb σ H0 (.int (m : Int))) (hl : ss.length ≤ 1000) : EvL (tCall spMoved [] E0 (tCons ta (tCons tb tNil))) σ H0 (ss.map (shift m)) := fun H s Q q =>
  e1 H s _ fun p H1 s1 h1 => e2 H1 (s.trans s1) _ fun H2 s2 => ⟨p, ss, m, rfl, h1.same s2, hl, fun r H3 s3 h3 => q r H3 ((s1.trans s2).trans s3) h3⟩
theorem es_join (e1 : EvV ta σ H0 (.int (a : Int))) (e2 : EvV tb σ H0 (.int (b : Int))) : EvS (tTup (tCons (tC (.str "join")) (tCons ta (tCons tb tNil)))) σ H0 (.join a b) := fun H s Q q =>
  e1 H s _ fun H1 s1 => e2 H1 (s.trans s1) _ fun H2 s2 => ⟨(by show 3 ≤ sizeLine; decide), fun p np => q p _ ((s1.trans s2).trans (same_upd np)) upd_same⟩
theorem es_pow (e1 : EvV ta σ H0 (.int (a : Int))) (e2 : EvV tb σ H0 (.int (b : Int))) : EvS (tTup (tCons (tC (.str "power")) (tCons ta (tCons tb tNil)))) σ H0 (.pow a b) := fun H s Q q =>
  e1 H s _ fun H1 s1 => e2 H1 (s.trans s1) _ fun H2 s2 => ⟨(by show 3 ≤ sizeLine; decide), fun p np => q p _ ((s1.trans s2).trans (same_upd np)) upd_same⟩
theorem es_txt (e1 : EvV ta σ H0 (.str z)) : EvS (tTup (tCons (tC (.str "text")) (tCons ta tNil))) σ H0 (.txt z) := fun H s Q q =>
  e1 H s _ fun H1 s1 => ⟨(by show 2 ≤ sizeLine; decide), fun p np => q p _ (s1.trans (same_upd np)) upd_same⟩
theorem el_one (e : EvS ta σ H0 s) : EvL (tLst (tCons ta tNil)) σ H0 [s] := fun H s Q q => e H s _ fun p H1 s1 h1 => ⟨(by show 1 ≤ sizeLine; decide), fun r nr => q r _ (s1.trans (same_upd nr)) ⟨[p], upd_same, .cons ((same_upd nr) _ _ h1) .nil⟩⟩
theorem er_one (e : EvS ta σ H0 s) : EvR (tTup (tCons ta tNil)) σ H0 [s] := fun H s Q q => e H s _ fun p H1 s1 h1 => ⟨(by show 1 ≤ sizeLine; decide), fun r nr => q r _ (s1.trans (same_upd nr)) ⟨[p], upd_same, .cons ((same_upd nr) _ _ h1) .nil⟩⟩
theorem ev_lenL (e : EvL ta σ H0 ss) : EvV (tCB (fun xs H Q => ∃ p ys, xs = [.ref p] ∧ (SqL K H p ys ∨ SqT K H p ys) ∧ Q (.int ys.length) H) (tCons ta tNil)) σ H0 (.int (ss.length : Int)) := fun H s Q q =>
  e H s _ fun p H1 s1 ⟨ps, ep, hp⟩ => ⟨p, _, rfl, .inl (SqL.of ep), by
    rw [List.length_map, steps_len hp]
    exact q H1 s1⟩
/-! data -/
theorem ed_S (e : EvV t σ H0 (.str z)) : EvD K t σ H0 (.str z) := fun H s Q q => e H s _ fun H1 s1 => q _ H1 s1 fun _ _ => .str z
theorem ed_I {m : Int} (e : EvV t σ H0 (.int m)) : EvD K t σ H0 (.int m) := fun H s Q q => e H s _ fun H1 s1 => q _ H1 s1 fun _ _ => .int m
theorem ed_R (e : EvR t σ H0 ss) : EvD K t σ H0 (.tuple (stpsD ss)) := fun H s Q q => e H s _ fun p H1 s1 h1 => q _ H1 s1 fun H2 s2 => dp_rowS (h1.keep (.same s2))
theorem ed_nil : EvDs K tNil σ H0 [] := fun H s Q q => q [] H (Same.refl H) fun _ _ => .nil
theorem ed_cons (e1 : EvD K ta σ H0 d) (e2 : EvDs K as σ H0 ds) : EvDs K (tCons ta as) σ H0 (d :: ds) := fun H s Q q => e1 H s _ fun v H1 s1 h1 => e2 H1 (s.trans s1) _ fun xs H2 s2 h2 => q _ H2 (s1.trans s2) fun H3 s3 => .cons (h1 H3 (s2.trans s3)) (h2 H3 s3)
theorem ed_lst (e : EvDs K as σ H0 ds) (hl : ds.length ≤ 10) : EvD K (tLst as) σ H0 (.list ds) := fun H s Q q => e H s _ fun xs H1 s1 h1 =>
  ⟨by rw [dpAll_len (h1 H1 (Same.refl H1))]; exact Nat.le_trans hl (by decide), fun p np => q _ _ (s1.trans (same_upd np)) fun H2 s2 => .lst (SqL.of (s2 _ _ upd_same)) (h1 H2 ((same_upd np).trans s2))⟩
theorem ed_var (hi : σ[i]? = some (some v)) (hv : ∀ H3, Same H0 H3 → Dp K H3 v d) : EvD K (tVar i) σ H0 d := fun H s Q q => ⟨_, hi, q v H (Same.refl H) fun H2 s2 => hv H2 (s.trans s2)⟩
theorem ev_show (e : EvD K t σ H0 d) (h : Sh n w d) (hn : n < 60) (hw : w ≤ 200000) : EvV (tCB (rShow K) (tCons t tNil)) σ H0 (.str d.shown) := fun H s Q q => e H s _ fun v H1 s1 h1 =>
  ⟨v, d, rfl, .flat (h1 H1 (Same.refl H1)) (PyData.hasDict_of_canLay d h.lay), h.sh, Nat.lt_of_le_of_lt h.dp hn, h.len hw, q H1 s1⟩
/-! tests -/
theorem ef_or (e1 : EvF p σ H0) (e2 : EvF q σ H0) : EvF (tOr p q) σ H0 := fun H s D q => e1 H s _ fun H1 s1 => iteF (e2 H1 (s.trans s1) _ fun H2 s2 => q H2 (s1.trans s2))
theorem ef_ne (e1 : EvV ta σ H0 (.str z)) (e2 : EvV tb σ H0 (.str z)) : EvF (tTest (tOp rNe ta tb)) σ H0 := fun H s D q => e1 H s _ fun H1 s1 => e2 H1 (s.trans s1) _ fun H2 s2 => ⟨rfl, _, rfl, by
  rw [decide_eq_true rfl]
  exact q H2 (s1.trans s2)⟩
theorem ef_neD (e1 : EvD K ta σ H0 d) (e2 : EvD K tb σ H0 d) (sh : SeqAt.shaped d = true) (he : PyData.eqv d d = true) : EvF (tTest (tOp (rNeD K) ta tb)) σ H0 := fun H s D q => e1 H s _ fun v1 H1 s1 h1 => e2 H1 (s.trans s1) _ fun v2 H2 s2 h2 =>
  ⟨_, _, h1 H2 s2, h2 H2 (Same.refl H2), sh, sh, _, rfl, by
    rw [he]
    exact q H2 (s1.trans s2)⟩
/-- a != b, two of the class with the same steps -/
theorem ef_neP (e1 : EvP C ta σ H0 sg ss) (e2 : EvP C tb σ H0 sg ss) (pl : ∀ s ∈ ss, plainStp s) : EvF (tTest (tOp (Ow.rOwnNe C (spPEq C) E0) ta tb)) σ H0 := fun H s D q =>
  e1 H s _ fun p H1 s1 hp => e2 H1 (s.trans s1) _ fun o H2 s2 ho => by
    have hp := hp.same s2
    obtain ⟨dx, a, b, ep, _⟩ := id hp
    obtain ⟨dy, a', b', eo, _⟩ := id ho
    refine ⟨p, o, dx, dy, _, _, rfl, rfl, ep, eo, p, o, sg, ss, ss, rfl, hp, ho, pl, pl, _, rfl, _, rfl, ?_⟩
    rw [decide_eq_true rfl]
    exact q H2 (s1.trans s2)
theorem ev_neP (e1 : EvP C ta σ H0 sg ss) (e2 : EvP C tb σ H0 sg tt) (pl : ∀ s ∈ ss, plainStp s) (pl' : ∀ s ∈ tt, plainStp s) (ne : ss ≠ tt) : EvV (tOp (Ow.rOwnNe C (spPEq C) E0) ta tb) σ H0 (.bl true) := fun H s Q q =>
  e1 H s _ fun p H1 s1 hp => e2 H1 (s.trans s1) _ fun o H2 s2 ho => by
    have hp := hp.same s2
    obtain ⟨dx, a, b, ep, _⟩ := id hp
    obtain ⟨dy, a', b', eo, _⟩ := id ho
    refine ⟨p, o, dx, dy, _, _, rfl, rfl, ep, eo, p, o, sg, ss, tt, rfl, hp, ho, pl, pl', _, rfl, ?_⟩
    rw [decide_eq_false ne]
    exact q H2 (s1.trans s2)
theorem ev_eqP (e1 : EvP C ta σ H0 sg ss) (e2 : EvP C tb σ H0 sg tt) (pl : ∀ s ∈ ss, plainStp s) (pl' : ∀ s ∈ tt, plainStp s) : EvV (tOp (Ow.rOwn C (spPEq C) E0) ta tb) σ H0 (.bl (decide (ss = tt))) := fun H s Q q =>
  e1 H s _ fun p H1 s1 hp => e2 H1 (s.trans s1) _ fun o H2 s2 ho => by
    have hp := hp.same s2
    obtain ⟨dx, a, b, ep, _⟩ := id hp
    obtain ⟨dy, a', b', eo, _⟩ := id ho
    exact ⟨p, o, dx, dy, _, _, rfl, rfl, ep, eo, p, o, sg, ss, tt, rfl, hp, ho, pl, pl', q H2 (s1.trans s2)⟩
theorem ef_notV (e : EvV t σ H0 (.bl true)) : EvF (tNot (tTest t)) σ H0 := fun H s D q => e H s _ fun H1 s1 => ⟨_, rfl, q H1 s1⟩
theorem seq_if (e : EvF p σ H0) (s : Same H0 H) (q : ∀ H', Same H H' → us D σ H') : tSeq (tIfS p (tRet (tC (.bl false))) tNext) us D σ H := e H s _ fun H' s' => iteF (q H' s')
theorem seq_asgV (e : EvV t σ H0 v) (s : Same H0 H) (q : ∀ H2, Same H H2 → us D (σ.set i (some v)) H2) : tSeq (tAsg t (gName i)) us D σ H := e H s _ q
theorem seq_asgD (e : EvD K t σ H0 d) (s : Same H0 H) (q : ∀ v H2, Same H H2 → (∀ H3, Same H2 H3 → Dp K H3 v d) → us D (σ.set i (some v)) H2) : tSeq (tAsg t (gName i)) us D σ H := e H s _ fun v H1 s1 h1 => q v H1 s1 h1
theorem seq_asgL (e : EvL t σ H0 ss) (s : Same H0 H) (q : ∀ p H2, Same H H2 → LstS H2 p ss → us D (σ.set i (some (.ref p))) H2) : tSeq (tAsg t (gName i)) us D σ H := e H s _ q
end
end K58

set_option Elab.async false
set_option linter.all false
set_option maxRecDepth 100000
set_option maxHeartbeats 6400000
namespace K58
open PySem L2 Tx Tg Tm Sm
/-- what the law calls -/
structure Up (P : Program) (w : World) (K : PySem.W.Frag) (mg : Str → Option Value) (base : Heap) (fB fP fS fG fL fZ fA fM : Addr) (dB dP dS dG dL dZ dA dM : FuncData) : Prop where
  DB : Df K mg "_law_bit" sBit ["_law_cup_here", "_law_much"] fB dB
  DP : Df K mg "_law_pick" sPick ["_law_cup_here", "_law_items"] fP dP
  DS : Df K mg "_law_small_steps" sSmall ["_law_cup_here", "_law_signs_here", "_law_many"] fS dS
  DG : Df K mg "_law_great_steps" sGreat ["_law_cup_here", "_law_signs_here", "_law_many"] fG dG
  DL : Df K mg "_law_lines_of" sLinesOf ["_law_steps"] fL dL
  DZ : Df K mg "_law_sizes_of" sSizesOf ["_law_steps"] fZ dZ
  DA : Df K mg "_law_letter_at" sLawLetter ["_law_steps", "_law_many", "_law_place", "_law_spot"] fA dA
  DM : Df K mg "_law_moved" sMoved ["_law_steps", "_law_much"] fM dM
  gb : FnOk P w K mg base CX0 1 fB dB ["_law_cup_here", "_law_much"] spBit
  gp : FnOk P w K mg base CX0 2 fP dP ["_law_cup_here", "_law_items"] spPick
  gs : FnOk P w K mg base CX0 4 fS dS ["_law_cup_here", "_law_signs_here", "_law_many"] (spDrawn 3 0)
  gg : FnOk P w K mg base CX0 4 fG dG ["_law_cup_here", "_law_signs_here", "_law_many"] (spDrawn (10 ^ 30) 1)
  gl : FnOk P w K mg base CX0 1 fL dL ["_law_steps"] spLinesOf
  gz : FnOk P w K mg base CX0 1 fZ dZ ["_law_steps"] spSizesOf
  ga : FnOk P w K mg base CX0 1 fA dA ["_law_steps", "_law_many", "_law_place", "_law_spot"] spLL
  gm : FnOk P w K mg base CX0 1 fM dM ["_law_steps", "_law_much"] spMoved
theorem lst_ne {H : Hp} {p c : Addr} {ss : List Stp} (h : LstS H p ss) (h1 : 1 ≤ ss.length) (hc : Cup H c) : p ≠ c := fun e => by
  obtain ⟨ps, ep, hps⟩ := h
  obtain ⟨a, b, d, ec⟩ := hc
  have l := steps_len hps
  rw [e, ec] at ep
  cases ps with
  | nil => rw [← l] at h1; exact absurd h1 (by decide)
  | cons x xs =>
    injection ep with ep
    injection ep with ep
    injection ep with ep
    cases ep
theorem last_line {ss : List Stp} (h : 1 ≤ ss.length) : atI (strsV (linesT ss)) (-1) = some (.str (tx (L ss (ss.length - 1)))) := by
  have e := linesT_take (ss := ss) (i := ss.length - 1) (by omega)
  have e2 : ss.length - 1 + 1 = ss.length := by omega
  rw [e2, List.take_of_length_le (by rw [linesT_len]; exact Nat.le_refl _)] at e
  rw [e, strsV_app]
  exact atI_last _ _
theorem cut_to {z : Str} (i : Nat) : cds (cutS z none (some (i : Int))) = (cds z).take i := by
  unfold cutS
  show (((cds z).drop (HT.sIx z.length 0 none)).take (HT.sIx z.length z.length (some (i : Int)) - HT.sIx z.length 0 none)) = _
  rw [HT.sIx_none, HT.sIx_nat, List.drop_zero, Nat.sub_zero]
  by_cases h : i ≤ z.length
  · rw [Nat.min_eq_left h]
  · rw [Nat.min_eq_right (by omega), List.take_of_length_le (by rw [cds_len]; exact Nat.le_refl _), List.take_of_length_le (by rw [cds_len]; omega)]
section
variable {K : PySem.W.Frag} {C : Addr} {σ : L2.St} {H0 H : Hp} {sg : Str} {ss tt : List Stp} {t ta tb : TE} {x y v : V} {z : Str}
theorem EvV.to (e : EvV t σ H0 x) (h : x = y) : EvV t σ H0 y := h ▸ e
theorem ev_lastLine (e : EvL ta σ H0 ss) (dr : Drawn sg 3 ss) (hz : ∀ i, i < ss.length → Z ss i ≤ 4000) (h1 : 1 ≤ ss.length) (hl : ss.length ≤ 100) {r : R2}
    (hr : ∀ p xs v H Q, H p = some (.lst xs) → atI xs (-1) = some v → Q v H → r (.ref p) (.int (-1)) H Q) : EvV (tOp r (tCall spLinesOf [] E0 (tCons ta tNil)) (tUn (rU fun i => V.int (-i)) (tC (.int 1)))) σ H0 (.str (tx (L ss (ss.length - 1)))) := fun H s Q q =>
  e H s _ fun p H1 s1 h1' => ⟨sg, p, ss, rfl, h1', dr, hz, hl, fun p2 H2 s2 e2 => ⟨_, rfl, hr p2 _ _ H2 _ e2 (last_line h1) (q H2 (s1.trans s2))⟩⟩
theorem seq_asgP {i : Nat} {us : TS} {D : Ends} (e : EvP C t σ H0 sg ss) (s : Same H0 H) (q : ∀ p H2, Same H H2 → ProgAt C H2 p sg ss → us D (σ.set i (some (.ref p))) H2) : tSeq (tAsg t (gName i)) us D σ H := e H s _ q
end
def ttV (K : PySem.W.Frag) (C : Addr) : TT := tOr (tTest (tOp (fun x y H Q => Ow.rOwn C (spPEq C) E0 x y H Q ∨ Ow.rOwnX K C (spPEqX K C) E0 x y H Q) (tVar 5) (tVar 16))) (tNot (tTest (tOp (fun x y H Q => Ow.rOwnNe C (spPEq C) E0 x y H Q ∨ Ow.rOwnNeX K C (spPEqX K C) E0 x y H Q) (tVar 5) (tVar 16))))
theorem small_log {n : Nat} (h : n ≤ 40) : ((n : Nat) : Int).natAbs.log2 < 1920 := (small_text n (by omega)).2
theorem told_l1 {n : Nat} (h : n ≤ 40) : ("program of " : Str).length + ((toString ((n : Nat) : Int) : String) : Str).length ≤ sizeLine := by
  have := (small_text n (by omega)).1
  have l1 : ("program of " : Str).length = 11 := by decide +kernel
  exact Nat.le_trans (show _ ≤ 100 by omega) (by decide)
theorem told_l2 {n : Nat} (h : n ≤ 40) : (("program of " : Str) ++ ((toString ((n : Nat) : Int) : String) : Str)).length + (" steps over " : Str).length ≤ sizeLine := by
  have := (small_text n (by omega)).1
  have l1 : ("program of " : Str).length = 11 := by decide +kernel
  have l2 : (" steps over " : Str).length = 12 := by decide +kernel
  rw [str_len]
  exact Nat.le_trans (show _ ≤ 100 by omega) (by decide)
theorem told_l3 {n : Nat} {sg : Str} (hs : Signs sg) (h : n ≤ 40) : (("program of " : Str) ++ ((toString ((n : Nat) : Int) : String) : Str) ++ (" steps over " : Str)).length + sg.length ≤ sizeLine := by
  have := (small_text n (by omega)).1
  have l1 : ("program of " : Str).length = 11 := by decide +kernel
  have l2 : (" steps over " : Str).length = 12 := by decide +kernel
  have := (sg_len hs).2
  rw [str_len, str_len]
  exact Nat.le_trans (show _ ≤ 100 by omega) (by decide)
abbrev nShort : List Str := ["_law_cup_here", "_law_signs_here", "_law_steps", "_law_others", "_law_lines", "_law_made", "_law_more", "_law_line_here", "_law_much", "_law_told", "_law_both", "_law_wide", "_law_due", "_law_twin", "_law_odd", "_law_spot", "_law_one"]
/-- the locals -/
abbrev stA (c : Addr) (sg : Str) (pS pT pL pM pN : Addr) (z : Str) (k : Nat) (a b d e f g : Option V) : L2.St := [some (.ref c), some (.str sg), some (.ref pS), some (.ref pT), some (.ref pL), some (.ref pM), some (.ref pN), some (.str z), some (.int (k : Int)), a, b, d, e, f, g, none, none]
def spShort : Sp := fun vs H Q _ => ∃ (c : Addr) (sg : Str), vs = [.ref c, .str sg] ∧ Cup H c ∧ Signs sg ∧ ∀ H', But c H H' → Cup H' c → Q (.bl true) H'
theorem scShort : FnScope nShort ["_law_cup_here", "_law_signs_here"] (defScope sShort) := ⟨rfl, rfl, rfl, by decide +kernel, rfl, by decide +kernel, by decide +kernel⟩
theorem ev_cut50 {σ : L2.St} {H0 : Hp} {z : Str} (hi : σ[7]? = some (some (.str z))) (hz : z.length ≤ 4000) : EvV (tSl rSlS (tVar 7) tNoPart (tPart (tC (.int 50)))) σ H0 (.str (cutS z none (some 50))) := fun H s Q q => ⟨_, hi, _, rfl, _, rfl, Nat.le_trans hz (by decide), q H (Same.refl H)⟩
theorem cut50_l {sg z : Str} (hs : Signs sg) : (cutS z none (some 50)).length + sg.length ≤ 100 := by
  have e := cut_to (z := z) 50
  have := congrArg List.length e
  have h2 : (cds (cutS z none (some ((50 : Nat) : Int)))).length = (cutS z none (some 50)).length := cds_len _
  rw [h2, List.length_take] at this
  have := (sg_len hs).2
  omega
theorem cut50_mem {z : Str} {c : Nat} (h : c ∈ cds (cutS z none (some 50))) : c ∈ cds z := by
  have e := cut_to (z := z) 50
  have h : c ∈ cds (cutS z none (some ((50 : Nat) : Int))) := h
  rw [e] at h
  exact List.mem_of_mem_take h
theorem cut50_over {sg z : Str} (hs : Signs sg) (h : Over sg z) : Over sg (cutS z none (some 50) ++ sg) := fun c hc => by
  rw [cds_app] at hc
  rcases List.mem_append.mp hc with hc | hc
  · exact h c (cut50_mem hc)
  · exact hc
theorem odd_off {K : PySem.W.Frag} {C : Addr} {H : Hp} {p : Addr} {sg : Str} {ss : List Stp} {x : V} {t : Value} {σ : L2.St} {D : Bool → Hp → Prop} (h : ProgAt C H p sg ss) (ty : TyX K H x t) (n : PySem.W.notFirst K C t = true) (k : PySem.W.kitOne K t (.ref C) = some false)
    (h5 : σ[5]? = some (some (.ref p))) (h16 : σ[16]? = some (some x)) (q : D false H) : ttV K C σ H D := by
  obtain ⟨dx, a, b, hins, _⟩ := id h
  exact ⟨_, h5, _, h16, .inr ⟨p, dx, _, t, rfl, hins, ty, n, p, x, t, rfl, ty, k, _, rfl, iteF ⟨_, h5, _, h16, .inr ⟨p, dx, _, t, rfl, hins, ty, n, p, x, t, rfl, ty, k, false, rfl, _, rfl, q⟩⟩⟩⟩
theorem odd_own {K : PySem.W.Frag} {C : Addr} {H : Hp} {p o : Addr} {sg : Str} {ss tt : List Stp} {σ : L2.St} {D : Bool → Hp → Prop} (h : ProgAt C H p sg ss) (ho : ProgAt C H o sg tt) (pl : ∀ s ∈ ss, plainStp s) (pl' : ∀ s ∈ tt, plainStp s) (ne : ss ≠ tt)
    (h5 : σ[5]? = some (some (.ref p))) (h16 : σ[16]? = some (some (.ref o))) (q : D false H) : ttV K C σ H D := by
  obtain ⟨dx, a, b, hins, _⟩ := id h
  obtain ⟨dy, a', b', hins', _⟩ := id ho
  have e : decide (ss = tt) = false := decide_eq_false ne
  exact ⟨_, h5, _, h16, .inl ⟨p, o, dx, dy, _, _, rfl, rfl, hins, hins', p, o, sg, ss, tt, rfl, h, ho, pl, pl', _, rfl, by
    rw [e]
    exact iteF ⟨_, h5, _, h16, .inl ⟨p, o, dx, dy, _, _, rfl, rfl, hins, hins', p, o, sg, ss, tt, rfl, h, ho, pl, pl', _, rfl, _, rfl, by rw [e]; exact q⟩⟩⟩⟩
theorem odd_ne {sg : Str} {ss : List Stp} (h : Drawn sg 3 ss) (hs : Signs sg) (e : ss = [.txt (cutS (tx (L ss (ss.length - 1))) none (some 50) ++ sg)]) : False := by
  have hl := (sg_len hs).1
  generalize hw : cutS (tx (L ss (ss.length - 1))) none (some 50) ++ sg = w at e
  subst e
  have h4 : w.length ≤ 4 := h.dr (.txt w) List.mem_cons_self
  have eL : L [Stp.txt w] ([Stp.txt w].length - 1) = cds w := rfl
  rw [eL, tx_cds] at hw
  have e := cut_to (z := w) 50
  have := congrArg List.length e
  have h2 : (cds (cutS w none (some ((50 : Nat) : Int)))).length = (cutS w none (some 50)).length := cds_len _
  rw [h2, List.length_take, cds_len] at this
  have h3 := congrArg Str.length hw
  rw [str_len] at h3
  omega
theorem pow_joined {ss tt : List Stp} (hs : ∀ i k, Stp.pow i k ∈ ss → k ≤ 3) (ht : ∀ i k, Stp.pow i k ∈ tt → k ≤ 3) : ∀ i k, Stp.pow i k ∈ joined ss tt → k ≤ 3 := fun i k h => by
  rcases List.mem_append.mp h with h | h
  · rcases List.mem_append.mp h with h | h
    · exact hs i k h
    · obtain ⟨s, hs2, e⟩ := List.mem_map.mp h
      cases s with
      | txt z => cases e
      | join a b => cases e
      | pow a b =>
        have e : Stp.pow (a + ss.length) b = .pow i k := e
        injection e with e1 e2
        rw [← e2]
        exact ht a b hs2
  · have := List.mem_singleton.mp h
    cases this
section
variable {P : Program} {w : World} {K : PySem.W.Frag} {mg : Str → Option Value} {base : Heap}
theorem ok_short {CC f fB fP fS fG fL fZ fA fM : Addr} {fd dB dP dS dG dL dZ dA dM : FuncData} (F : Fun K "_law_short_right" "_law_short_right" sShort f fd) (T : Txt K mg) (C : Cl P w K mg base CC) (G : Up P w K mg base fB fP fS fG fL fZ fA fM dB dP dS dG dL dZ dA dM)
    (O1 : Off K CC "NoneType") (O2 : Off K CC "str") (O3 : Off K CC "tuple") : Kept P w K mg base CX0 11 f fd ["_law_cup_here", "_law_signs_here"] spShort := by
  refine Kept.fn F scShort (fun vs H Q E h => ?_) (fun cdv A outer s H vs Q E hr still h => ?_)
  · obtain ⟨c, sg, rfl, _⟩ := h
    rfl
  · obtain ⟨c, sg, rfl, hc, hsg, q⟩ := h
    have hu := hu_of hr
    refine ⟨_, (pss_cons (ps_par (i := 2) (j := 3) (by rfl) scShort.nd rfl rfl (by decide) rfl rfl (pa_cons (pe_call G.gs (hr.mono (by decide)) (by rfl) G.DS.m G.DS.F.kp G.DS.b .nil pass0 (pa_cons (pv 0) (pa_cons (pv 1) (pa_cons pe_int pa_nil)))) (pa_cons (pe_call G.gs (hr.mono (by decide)) (by rfl) G.DS.m G.DS.F.kp G.DS.b .nil pass0 (pa_cons (pv 0) (pa_cons (pv 1) (pa_cons pe_int pa_nil)))) pa_nil)) (by rfl))
    (pss_cons (ps_asg (pe_tup (pa_cons (pe_call G.gl (hr.mono (by decide)) (by rfl) G.DL.m G.DL.F.kp G.DL.b .nil pass0 (pa_cons (pv 2) pa_nil)) (pa_cons (pe_make C.MK.M C.MK.gi (hr.mono (by decide)) (by rfl) C.W.gP C.MK.bi .nil pass0 (pa_cons (pv 1) (pa_cons (pe_callTy call_tuple_of (by rfl) T.tuple (by decide +kernel) (pa_cons (pv 2) pa_nil)) pa_nil))) (pa_cons (pe_make C.MK.M C.MK.gi (hr.mono (by decide)) (by rfl) C.W.gP C.MK.bi .nil pass0 (pa_cons (pv 1) (pa_cons (pe_callTy call_tuple_of (by rfl) T.tuple (by decide +kernel) (pa_cons (pv 3) pa_nil)) pa_nil))) pa_nil)))) (pg_tup rfl (pgs_cons (pg_name (i := 4) scShort.nd rfl (Or.inl rfl)) (pgs_cons (pg_name (i := 5) scShort.nd rfl (Or.inr rfl)) (pgs_cons (pg_name (i := 6) scShort.nd rfl (Or.inl rfl)) pgs_nil)))))
    (pss_cons (ps_par (i := 7) (j := 8) (by rfl) scShort.nd rfl rfl (by decide) rfl rfl (pa_cons (pe_ix ix_list (pv 4) (pe_un un_neg pe_int) (fun _ _ => rfl)) (pa_cons (pe_call G.gb (hr.mono (by decide)) (by rfl) G.DB.m G.DB.F.kp G.DB.b .nil pass0 (pa_cons (pv 0) (pa_cons pe_int pa_nil))) pa_nil)) (by rfl))
    (pss_cons (ps_set (i := 9) scShort.nd rfl (Or.inl rfl) (pe_lst (pa_cons (pe_prop (pv 5) C.W.cl C.pLe C.gLe (hr.mono (by decide)) C.bLe .nil pass0 rfl) (pa_cons (pe_prop (pv 5) C.W.cl C.pSt C.gSt (hr.mono (by decide)) C.bSt .nil pass0 rfl) (pa_cons (pe_prop (pv 5) C.W.cl C.pSi C.gSi (hr.mono (by decide)) C.bSi .nil pass0 rfl) (pa_cons (pe_meth0 (pv 5) C.W.cl C.mTx C.gTx (hr.mono (by decide)) C.bTx .nil pass0) (pa_cons (pe_callB (Ow.len_own C.gLn (hr.mono (by decide)) C.sLn C.fnLn C.bLn pass0) (by rfl) T.len PySem.boot_len (pa_cons (pv 5) pa_nil)) (pa_cons (pe_callTy (Ow.str_own C.gSr (hr.mono (by decide)) C.sSr C.fnSr C.bSr pass0) (by rfl) T.str (by decide +kernel) (pa_cons (pv 5) pa_nil)) pa_nil))))))))
    (pss_cons (ps_if (pt_cmpR op_ne (pe_callB (call_show still hr.units) (by rfl) T.repr (by decide +kernel) (pa_cons (pv 9) pa_nil)) (pe_callB (call_show still hr.units) (by rfl) T.repr (by decide +kernel) (pa_cons (pe_lst (pa_cons (pv 1) (pa_cons (pe_callTy call_tuple_of (by rfl) T.tuple (by decide +kernel) (pa_cons (pv 2) pa_nil)) (pa_cons (pe_callB call_len_str (by rfl) T.len PySem.boot_len (pa_cons (pv 7) pa_nil)) (pa_cons (pv 7) (pa_cons (pe_callB call_len_seq (by rfl) T.len PySem.boot_len (pa_cons (pv 2) pa_nil)) (pa_cons (pe_op op_add_str (pe_op op_add_str (pe_op op_add_str pe_str (pe_callTy call_str_int (by rfl) T.str (by decide +kernel) (pa_cons (pe_callB call_len_seq (by rfl) T.len PySem.boot_len (pa_cons (pv 2) pa_nil)) pa_nil))) pe_str) (pv 1)) pa_nil))))))) pa_nil)) (nomark _)) (pss_one (ps_ret pe_bl)) pss_nil)
    (pss_cons (ps_if (pt_cmpR op_ne (pe_join pe_str (pe_lc (own := [("_law_spot", 15)]) (g := (gName 15)) (tt := tYes) (te := tOp (Ow.rOwnIx CC (spPIx CC) E0) (tVar 5) (tVar 15)) rfl scShort.nd (pi_range1 rfl T.range (pa_cons (pe_callB (call_min2 rfl) (by rfl) T.min (by decide +kernel) (pa_cons pe_int (pa_cons (pe_callB call_len_str (by rfl) T.len PySem.boot_len (pa_cons (pv 7) pa_nil)) pa_nil))) pa_nil)) (blkOk_by (own := [("_law_spot", 15)]) (N := nShort) (sc := defScope sShort) (by decide +kernel)) (fun _ _ _ _ _ => (pg_name (i := 15) scShort.nd rfl (Or.inl rfl))) (fun _ _ _ _ _ => pts_nil) (fun _ _ _ _ _ => (Ow.pe_ixOwn C.gIx (hr.mono (by decide)) C.sIx C.fIxI C.fnIx C.bIx pass0 (pv 5) (pv 15) (fun _ _ => rfl))))) (pe_slice sl_str (pv 7) po_none (po_some pe_int)) (nomark _)) (pss_one (ps_ret pe_bl)) pss_nil)
    (pss_cons (ps_par (i := 10) (j := 11) (by rfl) scShort.nd rfl rfl (by decide) rfl rfl (pa_cons (pe_op (Ow.op_own C.gAd (hr.mono (by decide)) C.sf C.sAd C.fnAd C.bAd pass0) (pv 5) (pv 6)) (pa_cons (pe_meth (pv 5) C.W.cl C.mPw C.gPw (hr.mono (by decide)) C.bPw .nil pass0 (pa_cons (pv 8) pa_nil)) pa_nil)) (by rfl))
    (pss_cons (ps_set (i := 12) scShort.nd rfl (Or.inl rfl) (pe_op op_cat (pe_op op_cat (pv 2) (pe_call G.gm (hr.mono (by decide)) (by rfl) G.DM.m G.DM.F.kp G.DM.b .nil pass0 (pa_cons (pv 3) (pa_cons (pe_callB call_len_seq (by rfl) T.len PySem.boot_len (pa_cons (pv 2) pa_nil)) pa_nil)))) (pe_lst (pa_cons (pe_tup (pa_cons pe_str (pa_cons (pe_op op_sub (pe_callB call_len_seq (by rfl) T.len PySem.boot_len (pa_cons (pv 2) pa_nil)) pe_int) (pa_cons (pe_op op_sub (pe_op op_add (pe_callB call_len_seq (by rfl) T.len PySem.boot_len (pa_cons (pv 2) pa_nil)) (pe_callB call_len_seq (by rfl) T.len PySem.boot_len (pa_cons (pv 3) pa_nil))) pe_int) pa_nil)))) pa_nil))))
    (pss_cons (ps_if (pt_cmpR op_ne (pe_callB (call_show still hr.units) (by rfl) T.repr (by decide +kernel) (pa_cons (pe_lst (pa_cons (pe_prop (pv 10) C.W.cl C.pSt C.gSt (hr.mono (by decide)) C.bSt .nil pass0 rfl) (pa_cons (pe_prop (pv 11) C.W.cl C.pSt C.gSt (hr.mono (by decide)) C.bSt .nil pass0 rfl) pa_nil))) pa_nil)) (pe_callB (call_show still hr.units) (by rfl) T.repr (by decide +kernel) (pa_cons (pe_lst (pa_cons (pe_callTy call_tuple_of (by rfl) T.tuple (by decide +kernel) (pa_cons (pv 12) pa_nil)) (pa_cons (pe_callTy call_tuple_of (by rfl) T.tuple (by decide +kernel) (pa_cons (pe_op op_cat (pv 2) (pe_lst (pa_cons (pe_tup (pa_cons pe_str (pa_cons (pe_op op_sub (pe_callB call_len_seq (by rfl) T.len PySem.boot_len (pa_cons (pv 2) pa_nil)) pe_int) (pa_cons (pv 8) pa_nil)))) pa_nil))) pa_nil)) pa_nil))) pa_nil)) (nomark _)) (pss_one (ps_ret pe_bl)) pss_nil)
    (pss_cons (ps_if (PW.pt (pw_or (pt_cmpR (op_neD hr.units) (pe_lst (pa_cons (pe_meth0 (pv 10) C.W.cl C.mTx C.gTx (hr.mono (by decide)) C.bTx .nil pass0) (pa_cons (pe_meth0 (pv 11) C.W.cl C.mTx C.gTx (hr.mono (by decide)) C.bTx .nil pass0) pa_nil))) (pe_lst (pa_cons (pe_op op_add_str (pv 7) (pe_ix ix_list (pe_call G.gl (hr.mono (by decide)) (by rfl) G.DL.m G.DL.F.kp G.DL.b .nil pass0 (pa_cons (pv 3) pa_nil)) (pe_un un_neg pe_int) (fun _ _ => rfl))) (pa_cons (pe_op op_mulV (pv 7) (pv 8)) pa_nil))) (nomark _)) (pw_or1 (pt_cmpR (op_neD hr.units) (pe_prop (pv 5) C.W.cl C.pSt C.gSt (hr.mono (by decide)) C.bSt .nil pass0 rfl) (pe_callTy call_tuple_of (by rfl) T.tuple (by decide +kernel) (pa_cons (pv 2) pa_nil)) (nomark _))))) (pss_one (ps_ret pe_bl)) pss_nil)
    (pss_cons (ps_par (i := 13) (j := 14) (by rfl) scShort.nd rfl rfl (by decide) rfl rfl (pa_cons (pe_make C.MK.M C.MK.gi (hr.mono (by decide)) (by rfl) C.W.gP C.MK.bi .nil pass0 (pa_cons (pv 1) (pa_cons (pe_callTy call_tuple_of (by rfl) T.tuple (by decide +kernel) (pa_cons (pv 2) pa_nil)) pa_nil))) (pa_cons (pe_lst (pa_cons pe_non (pa_cons (pv 7) (pa_cons (pe_callTy call_tuple_of (by rfl) T.tuple (by decide +kernel) (pa_cons (pv 2) pa_nil)) (pa_cons (ClX.pe_cmeth (pe_glob (v := .ref CC) (by rfl) C.W.gP rfl) C.rd C.cm C.gOf (hr.mono (by decide)) pass0 (pa_cons (pv 1) (pa_cons (pe_op op_add_str (pe_slice sl_str (pv 7) po_none (po_some pe_int)) (pv 1)) pa_nil))) (pa_cons (pv 10) pa_nil)))))) pa_nil)) (by rfl))
    (pss_cons (ps_if (PW.pt (pw_or (pt_cmpR (Ow.ne_own C.gEq (hr.mono (by decide)) C.ob C.sNe C.sEq C.fnEq C.bEq pass0) (pv 5) (pv 13) (nomark _)) (pw_or (pt_not (pt_cmpR (Ow.eq_own C.gEq (hr.mono (by decide)) C.nf C.sEq C.fnEq C.bEq pass0) (pv 5) (pv 13) (nomark _))) (pw_or1 (pt_cmpR (op_neD hr.units) (pe_lc (own := [("_law_one", 16)]) (g := (gName 16))  (tt := ttV K CC) (te := tVar 16) rfl scShort.nd (pi_list (pv 14)) (blkOk_by (own := [("_law_one", 16)]) (N := nShort) (sc := defScope sShort) (by decide +kernel)) (fun _ _ _ _ _ => (pg_name (i := 16) scShort.nd rfl (Or.inl rfl))) (fun _ _ _ _ _ => pts_one (PW.pt (pw_or (pt_cmpR (OpR.or (Ow.eq_own C.gEq (hr.mono (by decide)) C.nf C.sEq C.fnEq C.bEq pass0) (Ow.eq_ownX C.gEqX (hr.mono (by decide)) C.sEq C.fnEq C.bEq pass0)) (pv 5) (pv 16) (nomark _)) (pw_or1 (pt_not (pt_cmpR (OpR.or (Ow.ne_own C.gEq (hr.mono (by decide)) C.ob C.sNe C.sEq C.fnEq C.bEq pass0) (Ow.ne_ownX C.gEqX (hr.mono (by decide)) C.ob C.sNe C.sEq C.fnEq C.bEq pass0)) (pv 5) (pv 16) (nomark _))))))) (fun _ _ _ _ _ => (pv 16))) (pe_lst pa_nil) (nomark _)))))) (pss_one (ps_ret pe_bl)) pss_nil)
    (pss_one (ps_ret (pe_and (pe_cmpR (op_eqD hr.units) (pe_prop (ClX.pe_cmeth (pe_glob (v := .ref CC) (by rfl) C.W.gP rfl) C.rd C.cm C.gOf (hr.mono (by decide)) pass0 (pa_cons (pv 1) (pa_cons (pe_slice sl_str (pv 7) po_none (po_some pe_int)) pa_nil))) C.W.cl C.pSt C.gSt (hr.mono (by decide)) C.bSt .nil pass0 rfl) (pe_tup (pa_cons (pe_tup (pa_cons pe_str (pa_cons (pe_slice sl_str (pv 7) po_none (po_some pe_int)) pa_nil))) pa_nil)) (nomark _)) (pe_one (pe_cmpR (Ow.ne_own C.gEq (hr.mono (by decide)) C.ob C.sNe C.sEq C.fnEq C.bEq pass0) (pv 5) (pv 10) (nomark _)))))))))))))))))), ?_⟩
    refine ⟨_, rfl, _, rfl, c, sg, 6, rfl, hc, hsg, by decide, by decide, fun pS ss H1 hS dS nS mS hc1 b1 => ?_⟩
    refine ⟨_, rfl, _, rfl, c, sg, 3, rfl, hc1, hsg, by decide, by decide, fun pT tt H2 hT dT nT mT hc2 b2 => ?_⟩
    refine ⟨_, _, rfl, ?_⟩
    have hS2 := hS.but hc1 (lst_ne hS nS hc1) b2
    have b02 := b1.trans b2
    clear hS
    have zS : ∀ i, i < ss.length → Z ss i ≤ 972 := fun i hi => Nat.le_trans (small_Z dS (n := 5) (by omega) i hi) (by decide)
    have zT : ∀ i, i < tt.length → Z tt i ≤ 36 := fun i hi => Nat.le_trans (small_Z dT (n := 2) (by omega) i hi) (by decide)
    have zS4 : ∀ i, i < ss.length → Z ss i ≤ 4000 := fun i hi => Nat.le_trans (zS i hi) (by decide)
    have zT4 : ∀ i, i < tt.length → Z tt i ≤ 4000 := fun i hi => Nat.le_trans (zT i hi) (by decide)
    have okS := okP_of dS.ok nS (by omega) zS4
    have okT := okP_of dT.ok nT (by omega) zT4
    refine ⟨_, rfl, sg, pS, ss, rfl, hS2, dS, zS4, by omega, fun pL H3 s3 e3 => ?_⟩
    have hS3 := hS2.same s3
    have hT3 := hT.same s3
    refine ep_make (C := CC) (ev_var (i := 1) rfl) (er_tuple (K := K) (el_var (i := 2) rfl hS3)) hsg okS H3 (Same.refl _) _ fun pM H4 s4 hM => ?_
    refine ep_make (C := CC) (ev_var (i := 1) rfl) (er_tuple (K := K) (el_var (i := 3) rfl hT3)) hsg okT H4 s4 _ fun pN H5 s5 hN => ?_
    refine ⟨(by show 3 ≤ sizeLine; decide), fun pt npt => ⟨pt, _, rfl, SqT.of upd_same, rfl, _, _, rfl, _, _, rfl, _, _, rfl, rfl, ?_⟩⟩
    have s6 := same_upd (o := .tup [.ref pL, .ref pM, .ref pN]) npt
    have s36 := (s4.trans s5).trans s6
    have hS6 := hS3.same s36
    have hT6 := hT3.same s36
    have hM6 := hM.same (s5.trans s6)
    have hN6 := hN.same s6
    have e6 := s36 _ _ e3
    have hc6 := hc2.same (s3.trans s36)
    have b06 := b02.trans (But.of (s3.trans s36))
    generalize upd H5 pt (.tup [.ref pL, .ref pM, .ref pN]) = H6 at hS6 hT6 hM6 hN6 e6 hc6 b06 ⊢
    clear npt s6 s36 hS3 hT3 hS2 hT hM hN e3
    dsimp only
    refine ⟨_, rfl, _, rfl, pL, _, _, _, rfl, rfl, SqL.of e6, last_line nS, ?_⟩
    refine ⟨_, rfl, c, 3, rfl, hc6, by decide, small9000 (by decide) (by decide), fun r H7 r0 r3 hc7 b7 => ⟨_, _, rfl, ?_⟩⟩
    obtain ⟨k, rfl⟩ : ∃ k : Nat, r = (k : Int) := ⟨r.toNat, by omega⟩
    have k2 : k ≤ 2 := by omega
    have hS7 := hS6.but hc6 (lst_ne hS6 nS hc6) b7
    have hT7 := hT6.but hc6 (lst_ne hT6 nT hc6) b7
    have hM7 := hM6.but hc6 b7
    have hN7 := hN6.but hc6 b7
    have b07 := b06.trans b7
    clear hS6 hT6 hM6 hN6 e6
    have zl := zS (ss.length - 1) (by omega)
    have zlt := zT (tt.length - 1) (by omega)
    have ztx : (tx (L ss (ss.length - 1))).length = Z ss (ss.length - 1) := tx_len _
    have okd := ok_join2 dS.ok dT.ok nS nT
    have zJ := Z_joined dT.ok.good nS nT zS zT
    have okJ : okP sg (joined ss tt) := okP_of okd (by rw [joined_len]; omega) (by rw [joined_len]; omega) fun i hi => Nat.le_trans (zJ i hi) (by decide)
    have okw := ok_powed (k := k) dS.ok nS (Nat.le_trans k2 (by decide))
    have zW := Z_powed (k := k) nS k2 zS
    have okW : okP sg (ss ++ [.pow (ss.length - 1) k]) := okP_of okw (by rw [pow_len]; omega) (by rw [pow_len]; omega) fun i hi => Nat.le_trans (zW i hi) (by decide)
    have plS := dS.ok.plain hsg
    have plT := dT.ok.plain hsg
    dsimp only
    show tSeq (tAsg _ (gName 9)) _ _ [some (.ref c), some (.str sg), some (.ref pS), some (.ref pT), some (.ref pL), some (.ref pM), some (.ref pN), some (.str (tx (L ss (ss.length - 1)))), some (.int (k : Int)), none, none, none, none, none, none, none, none] H7
    have tmS : ∀ s ∈ ss, tame s := tame_of hsg dS.ok (by omega) fun i k hk => Nat.le_trans (show k ≤ 3 from dS.dr _ hk) (by decide)
    have shT := told_plain (n := ss.length) hsg (by omega)
    have plX := plain_tx hsg dS.ok (i := ss.length - 1) (by omega)
    have SH1 : Sh 3 20000 (.list [.str sg, .tuple (stpsD ss), .int (Z ss (ss.length - 1) : Int), .str (tx (L ss (ss.length - 1))), .int (ss.length : Int), .str (toldP ss.length sg)]) := ShA.lst
      (ShA.cons (n := 2) (w := 15000) (Sh.str (w := 10) (sg_plain hsg) (by have := (sg_len hsg).2; omega)) (ShA.cons (n := 2) (w := 2500) (Sh.row tmS (by omega)) (ShA.cons (n := 2) (w := 2400) (Sh.int (w := 12) (by omega) (by decide))
        (ShA.cons (n := 2) (w := 200) (Sh.str (w := 2000) plX (by omega)) (ShA.cons (n := 2) (w := 100) (Sh.int (w := 12) (by omega) (by decide)) (ShA.cons (n := 2) (w := 0) (Sh.str (w := 60) shT.1 shT.2) ShA.nil (by decide) (by decide)) (by decide) (by decide)) (by decide) (by decide)) (by decide) (by decide)) (by decide) (by decide)) (by decide) (by decide))
    refine seq_asgD (ed_lst (K := K) (ed_cons (ed_S (ev_letters (ep_var (i := 5) rfl hM7))) (ed_cons (ed_R (er_steps (ep_var (i := 5) rfl hM7))) (ed_cons (ed_I (ev_size (ep_var (i := 5) rfl hM7) nS))
      (ed_cons (ed_S (ev_text (ep_var (i := 5) rfl hM7) okS (by omega))) (ed_cons (ed_I (ev_len (ep_var (i := 5) rfl hM7) (by omega))) (ed_cons (ed_S (ev_str (ep_var (i := 5) rfl hM7) hsg (by omega))) ed_nil)))))) (by show 6 ≤ 10; decide)) (Same.refl _) fun v9 H8 s8 hv9 => ?_
    have hS8 := hS7.same s8
    show tSeq (tIfS _ _ _) _ _ (stA c sg pS pT pL pM pN (tx (L ss (ss.length - 1))) k (some v9) none none none none none) H8
    have eTold : EvV _ (stA c sg pS pT pL pM pN (tx (L ss (ss.length - 1))) k (some v9) none none none none none) H8 (.str (toldP ss.length sg)) :=
      ev_op (r := fun x y H Q => ∃ i j, x = .str i ∧ y = .str j ∧ i.length + j.length ≤ sizeLine ∧ Q (.str (i ++ j)) H) (ev_op (r := fun x y H Q => ∃ i j, x = .str i ∧ y = .str j ∧ i.length + j.length ≤ sizeLine ∧ Q (.str (i ++ j)) H) (ev_op (r := fun x y H Q => ∃ i j, x = .str i ∧ y = .str j ∧ i.length + j.length ≤ sizeLine ∧ Q (.str (i ++ j)) H) (ev_c (x := .str "program of "))
        (ev_cb (r := fun xs H Q => ∃ i, xs = [.int i] ∧ i.natAbs.log2 < 1920 ∧ Q (.str (toString i)) H) (ev_lenL (K := K) (el_var (i := 2) rfl hS8)) fun H Q q => ⟨_, rfl, small_log (by omega), q⟩) fun H Q q => ⟨_, _, rfl, rfl, told_l1 (by omega), q⟩) (ev_c (x := .str " steps over ")) fun H Q q => ⟨_, _, rfl, rfl, told_l2 (by omega), q⟩) (ev_var (i := 1) rfl) fun H Q q => ⟨_, _, rfl, rfl, told_l3 hsg (by omega), q⟩
    have lenZ : (((tx (L ss (ss.length - 1))).length : Nat) : Int) = (Z ss (ss.length - 1) : Int) := congrArg Int.ofNat ztx
    have C1 := ef_ne (ev_show (K := K) (n := 3) (w := 20000) (ed_var (i := 9) (σ := stA c sg pS pT pL pM pN (tx (L ss (ss.length - 1))) k (some v9) none none none none none) rfl hv9) SH1 (by decide) (by decide))
      (ev_show (K := K) (n := 3) (w := 20000) (ed_lst (K := K) (ed_cons (ed_S (ev_var (i := 1) rfl)) (ed_cons (ed_R (er_tuple (K := K) (el_var (i := 2) rfl hS8)))
        (ed_cons (ed_I ((ev_cb (r := fun xs H Q => ∃ z, xs = [V.str z] ∧ z.length ≤ sizeLine ∧ Q (V.int (z.length : Nat)) H) (ev_var (i := 7) rfl) fun H Q q => ⟨_, rfl, Nat.le_trans (show _ ≤ 972 by omega) (by decide), q⟩).to (congrArg V.int lenZ)))
        (ed_cons (ed_S (ev_var (i := 7) rfl)) (ed_cons (ed_I (ev_lenL (K := K) (el_var (i := 2) rfl hS8))) (ed_cons (ed_S eTold) ed_nil)))))) (by show 6 ≤ 10; decide)) SH1 (by decide) (by decide))
    refine seq_if C1 (Same.refl _) fun H9 s9 => ?_
    clear C1 eTold SH1
    have s79 := s8.trans s9
    have hS9 := hS7.same s79
    have hT9 := hT7.same s79
    have hM9 := hM7.same s79
    have hN9 := hN7.same s79
    have hc9 := hc7.same s79
    have b09 := b07.trans (But.of s79)
    clear hS7 hT7 hM7 hN7 hS8
    have zlen : (L ss (ss.length - 1)).length = Z ss (ss.length - 1) := rfl
    refine seq_if (H0 := H9) (fun H' s' D q' => ?_) (Same.refl _) fun H10 s10 => ?_
    · have hP := hM9.same s'
      obtain ⟨dx, a1, a2, hins, _⟩ := id hP
      have hm : ∀ n : Nat, (if (n : Int) < 30 then (n : Int) else 30).toNat = min 30 n ∧ -(2 ^ 62) ≤ (if (n : Int) < 30 then (n : Int) else 30) ∧ (if (n : Int) < 30 then (n : Int) else 30) < 2 ^ 62 := fun n => by
        split <;> omega
      obtain ⟨m1, m2, m3⟩ := hm (tx (L ss (ss.length - 1))).length
      refine ⟨⟨_, rfl⟩, _, rfl, _, rfl, Nat.le_trans (show _ ≤ 972 by omega) (by decide), _, _, rfl, _, rfl, m2, m3, fun D2 hD => ?_⟩
      rw [m1, tx_len]
      refine lc_range (lo := 0) (n := min 30 (L ss (ss.length - 1)).length) (fun i H2 => Same H' H2 ∧ H2 D2 = some (.lst ((((L ss (ss.length - 1)).take i).map one).map V.str))) ⟨same_upd hD, upd_same⟩ ?_ ?_
      · rintro i H2 hi ⟨s2, e2⟩
        rw [Int.zero_add]
        have hi2 : i < (L ss (ss.length - 1)).length := by omega
        refine ⟨rfl, iteT (B := False) ?_⟩
        refine ⟨_, rfl, _, rfl, pM, dx, _, rfl, s2 _ _ hins, pM, sg, ss, i, _, rfl, hP.same s2, okS, Nat.lt_of_lt_of_le (show i < 1000 by omega) (by decide +kernel), List.getElem?_eq_getElem hi2, _, e2, ?_, same_put s2 hD, ?_⟩
        · rw [List.length_map, List.length_map, List.length_take]
          exact Nat.lt_of_le_of_lt (show _ ≤ 972 by omega) (by decide)
        · rw [upd_same, List.take_add_one, List.getElem?_eq_getElem hi2, List.map_append, List.map_append]
          rfl
      · rintro H2 ⟨s2, e2⟩
        refine ⟨"", D2, _, rfl, rfl, .inl (SqL.of e2), ?_, ?_⟩
        · rw [sum_ones]
          show _ + _ * 0 ≤ _
          exact Nat.le_trans (show _ ≤ 972 by rw [List.length_take]; omega) (by decide)
        refine ⟨_, rfl, _, rfl, _, rfl, Nat.le_trans (show _ ≤ 972 by omega) (by decide), rfl, _, rfl, ?_⟩
        have ee : Txt.join "" ((((L ss (ss.length - 1)).take (min 30 (L ss (ss.length - 1)).length)).map one)) = cutS (tx (L ss (ss.length - 1))) none (some 30) := cds_ext (by
          rw [join_ones]
          refine Eq.trans ?_ (cut_to (z := tx (L ss (ss.length - 1))) 30).symm
          show _ = (L ss (ss.length - 1)).take 30
          by_cases h : 30 ≤ (L ss (ss.length - 1)).length
          · rw [Nat.min_eq_left h]
          · rw [Nat.min_eq_right (by omega), List.take_of_length_le (Nat.le_refl _), List.take_of_length_le (by omega)])
        rw [decide_eq_true (congrArg V.str ee)]
        exact q' H2 s2
    have hS10 := hS9.same s10
    have hT10 := hT9.same s10
    have hM10 := hM9.same s10
    have hN10 := hN9.same s10
    refine ep_add (C := CC) (ep_var (i := 5) rfl hM10) (ep_var (i := 6) rfl hN10) hsg nS nT (by omega) (by omega) okJ H10 (Same.refl _) _ fun pB H11 s11 hB => ?_
    refine ep_power (C := CC) (ep_var (i := 5) rfl hM10) (ev_var (i := 8) rfl) hsg nS (Nat.le_trans k2 (by decide)) (by omega) okW H11 s11 _ fun pW H12 s12 hW => ⟨_, _, rfl, ?_⟩
    have s1012 := s11.trans s12
    have hS12 := hS10.same s1012
    have hT12 := hT10.same s1012
    have hM12 := hM10.same s1012
    have hN12 := hN10.same s1012
    have hB12 := hB.same s12
    have hc12 := hc9.same (s10.trans s1012)
    have b012 := b09.trans (But.of (s10.trans s1012))
    clear hS9 hT9 hM9 hN9 hS10 hT10 hM10 hN10 hB
    dsimp only
    show tSeq (tAsg _ (gName 12)) _ _ (stA c sg pS pT pL pM pN (tx (L ss (ss.length - 1))) k (some v9) (some (.ref pB)) (some (.ref pW)) none none none) H12
    have eLS : EvV _ (stA c sg pS pT pL pM pN (tx (L ss (ss.length - 1))) k (some v9) (some (.ref pB)) (some (.ref pW)) none none none) H12 (.int (ss.length : Int)) := ev_lenL (K := K) (el_var (i := 2) rfl hS12)
    have eLT : EvV _ (stA c sg pS pT pL pM pN (tx (L ss (ss.length - 1))) k (some v9) (some (.ref pB)) (some (.ref pW)) none none none) H12 (.int (tt.length : Int)) := ev_lenL (K := K) (el_var (i := 3) rfl hT12)
    have eJ := es_join ((ev_op (r := rI0 fun i j => V.int (i - j)) eLS (ev_c (x := .int 1)) fun H Q q => ⟨_, _, rfl, rfl, q⟩).to (congrArg V.int (show (ss.length : Int) - 1 = ((ss.length - 1 : Nat) : Int) by omega)))
      ((ev_op (r := rI0 fun i j => V.int (i - j)) (ev_op (r := rI0 fun i j => V.int (i + j)) eLS eLT fun H Q q => ⟨_, _, rfl, rfl, q⟩) (ev_c (x := .int 1)) fun H Q q => ⟨_, _, rfl, rfl, q⟩).to (congrArg V.int (show (ss.length : Int) + (tt.length : Int) - 1 = ((ss.length + tt.length - 1 : Nat) : Int) by omega)))
    have eDue := el_cat (el_cat (el_var (i := 2) rfl hS12) (el_moved (el_var (i := 3) rfl hT12) eLS (by omega)) (by omega) (by rw [List.length_map]; omega)) (el_one eJ) (by rw [List.length_append, List.length_map]; omega) (by show 1 ≤ 1000; decide)
    refine seq_asgL eDue (Same.refl _) fun pD H13 s13 hD => ?_
    clear eDue eJ eLS eLT
    have hD : LstS H13 pD (joined ss tt) := hD
    have hS13 := hS12.same s13
    have hT13 := hT12.same s13
    have hM13 := hM12.same s13
    have hN13 := hN12.same s13
    have hB13 := hB12.same s13
    have hW13 := hW.same s13
    have hc13 := hc12.same s13
    have b013 := b012.trans (But.of s13)
    clear hS12 hT12 hM12 hN12 hB12 hW
    have plJ := okd.plain hsg
    have tmT : ∀ s ∈ tt, tame s := tame_of hsg dT.ok (by omega) fun i k hk => Nat.le_trans (show k ≤ 3 from dT.dr _ hk) (by decide)
    have tmJ : ∀ s ∈ joined ss tt, tame s := tame_of hsg okd (by rw [joined_len]; omega) fun i k' hk => Nat.le_trans (pow_joined (fun i k hk => dS.dr _ hk) (fun i k hk => dT.dr _ hk) i k' hk) (by decide)
    have tmW : ∀ s ∈ ss ++ [.pow (ss.length - 1) k], tame s := fun s hs => by
      rcases List.mem_append.mp hs with hs | hs
      · exact tmS s hs
      · rw [List.mem_singleton.mp hs]
        exact ⟨by omega, by omega⟩
    have SH2 : Sh 3 30000 (.list [.tuple (stpsD (joined ss tt)), .tuple (stpsD (ss ++ [.pow (ss.length - 1) k]))]) := ShA.lst
      (ShA.cons (n := 2) (w := 15000) (Sh.row tmJ (by rw [joined_len]; omega)) (ShA.cons (n := 2) (w := 0) (Sh.row tmW (by rw [pow_len]; omega)) ShA.nil (by decide) (by decide)) (by decide) (by decide))
    show tSeq (tIfS _ _ _) _ _ (stA c sg pS pT pL pM pN (tx (L ss (ss.length - 1))) k (some v9) (some (.ref pB)) (some (.ref pW)) (some (.ref pD)) none none) H13
    have eLS : EvV _ (stA c sg pS pT pL pM pN (tx (L ss (ss.length - 1))) k (some v9) (some (.ref pB)) (some (.ref pW)) (some (.ref pD)) none none) H13 (.int (ss.length : Int)) := ev_lenL (K := K) (el_var (i := 2) rfl hS13)
    have eP := es_pow ((ev_op (r := rI0 fun i j => V.int (i - j)) eLS (ev_c (x := .int 1)) fun H Q q => ⟨_, _, rfl, rfl, q⟩).to (congrArg V.int (show (ss.length : Int) - 1 = ((ss.length - 1 : Nat) : Int) by omega))) (ev_var (i := 8) (x := .int (k : Int)) rfl)
    have C3 := ef_ne (ev_show (K := K) (n := 3) (w := 30000) (ed_lst (K := K) (ed_cons (ed_R (er_steps (ep_var (i := 10) rfl hB13))) (ed_cons (ed_R (er_steps (ep_var (i := 11) rfl hW13))) ed_nil)) (by show 2 ≤ 10; decide)) SH2 (by decide) (by decide))
      (ev_show (K := K) (n := 3) (w := 30000) (ed_lst (K := K) (ed_cons (ed_R (er_tuple (K := K) (el_var (i := 12) rfl hD))) (ed_cons (ed_R (er_tuple (K := K) (el_cat (el_var (i := 2) rfl hS13) (el_one eP) (by omega) (by show 1 ≤ 1000; decide)))) ed_nil)) (by show 2 ≤ 10; decide)) SH2 (by decide) (by decide))
    refine seq_if C3 (Same.refl _) fun H14 s14 => ?_
    clear C3 eP eLS SH2
    have hS14 := hS13.same s14
    have hT14 := hT13.same s14
    have hM14 := hM13.same s14
    have hB14 := hB13.same s14
    have hW14 := hW13.same s14
    have hc14 := hc13.same s14
    have b014 := b013.trans (But.of s14)
    clear hS13 hT13 hM13 hN13 hB13 hW13 hD
    have ej : (joined ss tt).length - 1 = ss.length + tt.length := by rw [joined_len]; omega
    have ep : (ss ++ [Stp.pow (ss.length - 1) k]).length - 1 = ss.length := by rw [pow_len]; omega
    have ea : tx (L ss (ss.length - 1)) ++ tx (L tt (tt.length - 1)) = tx (L (joined ss tt) ((joined ss tt).length - 1)) := by rw [ej, L_joined dT.ok.good nS nT, tx_app]
    have eb : tx (rep k (cds (tx (L ss (ss.length - 1))))) = tx (L (ss ++ [.pow (ss.length - 1) k]) ((ss ++ [Stp.pow (ss.length - 1) k]).length - 1)) := by rw [ep, L_powed k nS]; rfl
    have la : (tx (L (joined ss tt) ((joined ss tt).length - 1))).length ≤ 4000 := by rw [tx_len]; exact Nat.le_trans (zJ _ (by rw [joined_len]; omega)) (by decide)
    have lb : (tx (L (ss ++ [.pow (ss.length - 1) k]) ((ss ++ [Stp.pow (ss.length - 1) k]).length - 1))).length ≤ 4000 := by rw [tx_len]; exact Nat.le_trans (zW _ (by rw [pow_len]; omega)) (by decide)
    have SH3 : Sh 1 9000 (.list [.str (tx (L (joined ss tt) ((joined ss tt).length - 1))), .str (tx (L (ss ++ [.pow (ss.length - 1) k]) ((ss ++ [Stp.pow (ss.length - 1) k]).length - 1)))]) := ShA.lst
      (ShA.cons (n := 0) (w := 4500) (Sh.str (w := 4000) (plain_tx hsg okd (by rw [joined_len]; omega)) la) (ShA.cons (n := 0) (w := 0) (Sh.str (w := 4000) (plain_tx hsg okw (by rw [pow_len]; omega)) lb) ShA.nil (by decide) (by decide)) (by decide) (by decide))
    have C4 := ef_or (ef_neD (K := K) (σ := stA c sg pS pT pL pM pN (tx (L ss (ss.length - 1))) k (some v9) (some (.ref pB)) (some (.ref pW)) (some (.ref pD)) none none) (ed_lst (K := K) (ed_cons (ed_S (ev_text (ep_var (i := 10) rfl hB14) okJ (by rw [ej]; exact Nat.le_trans (zJ _ (by rw [joined_len]; omega)) (by decide)))) (ed_cons (ed_S (ev_text (ep_var (i := 11) rfl hW14) okW (by rw [ep]; exact Nat.le_trans (zW _ (by rw [pow_len]; omega)) (by decide)))) ed_nil)) (by show 2 ≤ 10; decide))
      (ed_lst (K := K) (ed_cons (ed_S ((ev_op (r := fun x y H Q => ∃ i j, x = .str i ∧ y = .str j ∧ i.length + j.length ≤ sizeLine ∧ Q (.str (i ++ j)) H) (ev_var (i := 7) rfl) (ev_lastLine (r := fun x y H Q => ∃ p xs i v, x = .ref p ∧ y = .int i ∧ SqL K H p xs ∧ atI xs i = some v ∧ Q v H) (el_var (i := 3) rfl hT14) dT zT4 nT (by omega) fun p xs v H Q e a q => ⟨p, xs, _, v, rfl, rfl, SqL.of e, a, q⟩) fun H Q q => ⟨_, _, rfl, rfl, by rw [tx_len, tx_len]; exact Nat.le_trans (show _ ≤ 4000 by unfold Z at zl zlt; omega) (by decide), q⟩).to (congrArg V.str ea)))
        (ed_cons (ed_S ((ev_op (r := fun x y H Q => ∃ (z : Str) (n : Nat), x = .str z ∧ y = .int (n : Int) ∧ n ≤ 10000 ∧ z.length * n ≤ 10000 ∧ Q (.str (tx (rep n (cds z)))) H) (ev_var (i := 7) rfl) (ev_var (i := 8) rfl) fun H Q q => ⟨_, k, rfl, rfl, by omega, by
          rw [ztx]
          exact Nat.le_trans (Nat.mul_le_mul zl k2) (by decide), q⟩).to (congrArg V.str eb))) ed_nil)) (by show 2 ≤ 10; decide)) (SH3.shaped (by decide)) (eqv_strs2 _ _))
      (ef_neD (K := K) (ed_R (er_steps (ep_var (i := 5) rfl hM14))) (ed_R (er_tuple (K := K) (el_var (i := 2) rfl hS14))) (shaped_rowS plS) (by rw [eq_rowS, decide_eq_true rfl]))
    refine seq_if C4 (Same.refl _) fun H15 s15 => ?_
    clear C4 SH3
    have hS15 := hS14.same s15
    have hM15 := hM14.same s15
    have hB15 := hB14.same s15
    have hc15 := hc14.same s15
    have b015 := b014.trans (But.of s15)
    clear hS14 hT14 hM14 hB14 hW14
    dsimp only [tSeq, tPar]
    refine ep_make (C := CC) (σ := (stA c sg pS pT pL pM pN (tx (L ss (ss.length - 1))) k (some v9) (some (.ref pB)) (some (.ref pW)) (some (.ref pD)) none none)) (ev_var (i := 1) rfl) (er_tuple (K := K) (el_var (i := 2) rfl hS15)) hsg okS H15 (Same.refl _) _ fun pQ H16 s16 hQ => ?_
    have hS16 := hS15.same s16
    refine ⟨_, rfl, ?_⟩
    refine er_tuple (K := K) (σ := (stA c sg pS pT pL pM pN (tx (L ss (ss.length - 1))) k (some v9) (some (.ref pB)) (some (.ref pW)) (some (.ref pD)) none none)) (el_var (i := 2) rfl hS16) H16 (Same.refl _) _ fun pR H17 s17 hR => ?_
    refine ep_of (C := CC) (σ := (stA c sg pS pT pL pM pN (tx (L ss (ss.length - 1))) k (some v9) (some (.ref pB)) (some (.ref pW)) (some (.ref pD)) none none)) (ev_var (i := 1) rfl) (ev_op (r := fun x y H Q => ∃ i j, x = .str i ∧ y = .str j ∧ i.length + j.length ≤ sizeLine ∧ Q (.str (i ++ j)) H) (ev_cut50 (z := tx (L ss (ss.length - 1))) rfl (by omega)) (ev_var (i := 1) rfl) fun H Q q => ⟨_, _, rfl, rfl, Nat.le_trans (cut50_l hsg) (by decide), q⟩) hsg (cut50_over hsg (over_tx dS.ok (by omega))) (by rw [str_len]; exact cut50_l hsg) H17 (Same.refl _) _ fun pO H18 s18 hO => ?_
    refine ⟨_, rfl, (by show 5 ≤ sizeLine; decide), fun pX nX => ⟨_, _, rfl, ?_⟩⟩
    have s19 := same_upd (o := .lst [V.non, .str (tx (L ss (ss.length - 1))), .ref pR, .ref pO, .ref pB]) nX
    have eX : (upd H18 pX (.lst [V.non, .str (tx (L ss (ss.length - 1))), .ref pR, .ref pO, .ref pB])) pX = some (.lst [V.non, .str (tx (L ss (ss.length - 1))), .ref pR, .ref pO, .ref pB]) := upd_same
    have s1619 := (s17.trans s18).trans s19
    have hM19 := hM15.same (s16.trans s1619)
    have hB19 := hB15.same (s16.trans s1619)
    have hQ19 := hQ.same s1619
    have hR19 := hR.keep (.same (s18.trans s19))
    have hO19 := hO.same s19
    have hc19 := hc15.same (s16.trans s1619)
    have b019 := b015.trans (But.of (s16.trans s1619))
    generalize upd H18 pX (.lst [V.non, .str (tx (L ss (ss.length - 1))), .ref pR, .ref pO, .ref pB]) = H19 at eX hM19 hB19 hQ19 hR19 hO19 hc19 b019 ⊢
    clear s19 s1619 hM15 hB15 hQ hR hO hS15 hS16
    show tSeq (tIfS (tOr _ (tOr _ _)) _ _) _ _ (stA c sg pS pT pL pM pN (tx (L ss (ss.length - 1))) k (some v9) (some (.ref pB)) (some (.ref pW)) (some (.ref pD)) (some (.ref pQ)) (some (.ref pX))) H19
    have neO : ss ≠ [.txt (cutS (tx (L ss (ss.length - 1))) none (some 50) ++ sg)] := fun e => odd_ne dS hsg e
    have plO : ∀ s ∈ [Stp.txt (cutS (tx (L ss (ss.length - 1))) none (some 50) ++ sg)], plainStp s := fun s hs => by
      rw [List.mem_singleton.mp hs]
      exact over_plain hsg (cut50_over hsg (over_tx dS.ok (by omega)))
    refine seq_if (H0 := H19) (ef_or (ef_neP (ep_var (i := 5) rfl hM19) (ep_var (i := 13) rfl hQ19) plS) (ef_or (ef_notV ((ev_eqP (ep_var (i := 5) rfl hM19) (ep_var (i := 13) rfl hQ19) plS plS).to (by rw [decide_eq_true rfl]))) (fun H' s' D q' => ?_))) (Same.refl _) fun H20 s20 => ?_
    · refine ⟨_, rfl, pX, rfl, ⟨_, SqL.of (s' _ _ eX)⟩, fun D2 hD2 => ?_⟩
      refine lc_list (xs := [V.non, .str (tx (L ss (ss.length - 1))), .ref pR, .ref pO, .ref pB]) (fun i H2 => Same H' H2 ∧ H2 D2 = some (.lst [])) ⟨same_upd hD2, upd_same⟩ (fun i H2 _ z => SqL.of (z.1 _ _ (s' _ _ eX))) ?_ ?_
      · rintro i x H2 hx ⟨s2, e2⟩
        have s3 := s'.trans s2
        refine ⟨rfl, ?_⟩
        have hM2 := hM19.same s3
        match i, hx with
        | 0, hx =>
          cases hx
          exact odd_off (K := K) hM2 (.base .non) O1.n O1.k rfl rfl (iteF ⟨s2, e2⟩)
        | 1, hx =>
          cases hx
          exact odd_off (K := K) hM2 (.base (.str _)) O2.n O2.k rfl rfl (iteF ⟨s2, e2⟩)
        | 2, hx =>
          cases hx
          obtain ⟨rs, er, _⟩ := hR19.keep (.same s3)
          exact odd_off (K := K) hM2 (ty_tup (SqT.of er)) O3.n O3.k rfl rfl (iteF ⟨s2, e2⟩)
        | 3, hx =>
          cases hx
          exact odd_own (K := K) hM2 (hO19.same s3) plS plO neO rfl rfl (iteF ⟨s2, e2⟩)
        | 4, hx =>
          cases hx
          exact odd_own (K := K) hM2 (hB19.same s3) plS plJ ne_joined rfl rfl (iteF ⟨s2, e2⟩)
        | n + 5, hx => cases hx
      · rintro H2 ⟨s2, e2⟩
        refine ⟨Nat.zero_le _, fun p2 np2 => ?_⟩
        refine ⟨.list [], .list [], .lst (SqL.of ((same_upd np2) _ _ e2)) .nil, .lst (SqL.of upd_same) .nil, rfl, rfl, _, rfl, ?_⟩
        exact q' _ (s2.trans (same_upd np2))
    have hM20 := hM19.same s20
    have hB20 := hB19.same s20
    show tRet (tAndV (tOp _ _ _) _) _ (stA c sg pS pT pL pM pN (tx (L ss (ss.length - 1))) k (some v9) (some (.ref pB)) (some (.ref pW)) (some (.ref pD)) (some (.ref pQ)) (some (.ref pX))) H20
    have plF : ∀ s ∈ [Stp.txt (cutS (tx (L ss (ss.length - 1))) none (some 50))], plainStp s := fun s hs => by
      rw [List.mem_singleton.mp hs]
      exact over_plain hsg fun c hc => over_tx dS.ok (by omega) c (cut50_mem hc)
    have l50 : (cutS (tx (L ss (ss.length - 1))) none (some 50)).length ≤ 100 := by have := cut50_l (z := tx (L ss (ss.length - 1))) hsg; omega
    have e50 := fun H0 => ev_cut50 (H0 := H0) (z := tx (L ss (ss.length - 1))) (σ := (stA c sg pS pT pL pM pN (tx (L ss (ss.length - 1))) k (some v9) (some (.ref pB)) (some (.ref pW)) (some (.ref pD)) (some (.ref pQ)) (some (.ref pX)))) rfl (by omega)
    refine ed_R (K := K) (er_steps (ep_of (C := CC) (ev_var (i := 1) rfl) (e50 _) hsg (fun c hc => over_tx dS.ok (by omega) c (cut50_mem hc)) l50)) H20 (Same.refl _) _ fun v1 H21 s21 h1 => ?_
    refine ed_R (K := K) (er_one (es_txt (e50 _))) H21 s21 _ fun v2 H22 s22 h2 => ?_
    refine ⟨_, _, h1 _ s22, h2 _ (Same.refl _), shaped_rowS plF, shaped_rowS plF, true, by rw [eq_rowS, decide_eq_true rfl], iteT ?_⟩
    refine ev_neP (ep_var (i := 5) rfl hM20) (ep_var (i := 10) rfl hB20) plS plJ ne_joined H22 (s21.trans s22) _ fun H23 s23 => ?_
    have s1923 := s20.trans ((s21.trans s22).trans s23)
    exact q H23 (b019.trans (But.of s1923)) (hc19.same s1923)
end
end K58

set_option Elab.async false
set_option linter.all false
set_option maxRecDepth 100000
set_option maxHeartbeats 6400000
namespace K58
open PySem L2 Tx Tg Tm Sm
theorem last_size {ss : List Stp} (h : 1 ≤ ss.length) : atI (intsV (sizes ss)) (-1) = some (.int (Z ss (ss.length - 1) : Int)) := last_at h
theorem big_pow : ∀ i ≤ 6, 4 * (10 ^ 30) ^ i ≤ 4 * 10 ^ 180 := by decide +kernel
theorem big_le : (4 * 10 ^ 180 : Nat) < 10 ^ 200 ∧ (10 ^ 200 : Nat) < 10 ^ 400 ∧ (10 ^ 200 : Nat) < 2 ^ 9000 ∧ (10 ^ 200 : Nat) < 10 ^ 4300 ∧ (10 ^ 200 : Nat) < 2 ^ 1400 := by decide +kernel
theorem great_Z {sg : Str} {ss : List Stp} (h : Drawn sg (10 ^ 30) ss) (hl : ss.length ≤ 7) : ∀ i, i < ss.length → Z ss i < 10 ^ 200 := fun i hi =>
  Nat.lt_of_le_of_lt (h.grow (by decide +kernel) i hi) (Nat.lt_of_le_of_lt (big_pow i (by omega)) big_le.1)
theorem show_big {n : Nat} (h : n < 10 ^ 200) : PyData.showable (.int (n : Int)) = true ∧ (PyData.shown (.int (n : Int))).length ≤ sizeLine := by
  have h2 : ((n : Nat) : Int).natAbs < 2 ^ 1400 := Nat.lt_trans (show ((n : Nat) : Int).natAbs < 10 ^ 200 by rw [Int.natAbs_natCast]; exact h) big_le.2.2.2.2
  have h3 : ((n : Nat) : Int).natAbs.log2 < 1400 := PySem.Flt.log2_lt_of (by decide) h2
  refine ⟨decide_eq_true (Nat.lt_trans h3 (by decide)), ?_⟩
  exact PySem.int_text_fits10 (Nat.lt_trans (show ((n : Nat) : Int).natAbs < 10 ^ 200 by rw [Int.natAbs_natCast]; exact h) big_le.2.2.2.1)
abbrev nFar : List Str := ["_law_cup_here", "_law_signs_here", "_law_steps", "_law_many", "_law_made", "_law_turn", "_law_spot"]
theorem scFar : FnScope nFar ["_law_cup_here", "_law_signs_here"] (defScope sFar) := ⟨rfl, rfl, rfl, by decide +kernel, rfl, by decide +kernel, by decide +kernel⟩
section
variable {P : Program} {w : World} {K : PySem.W.Frag} {mg : Str → Option Value} {base : Heap}
theorem ok_far {CC f fB fP fS fG fL fZ fA fM : Addr} {fd dB dP dS dG dL dZ dA dM : FuncData} (F : Fun K "_law_far_right" "_law_far_right" sFar f fd) (T : Txt K mg) (C : Cl P w K mg base CC) (G : Up P w K mg base fB fP fS fG fL fZ fA fM dB dP dS dG dL dZ dA dM) :
    Kept P w K mg base CX0 11 f fd ["_law_cup_here", "_law_signs_here"] spShort := by
  refine Kept.fn F scFar (fun vs H Q E h => ?_) (fun cdv A outer s H vs Q E hr still h => ?_)
  · obtain ⟨c, sg, rfl, _⟩ := h
    rfl
  · obtain ⟨c, sg, rfl, hc, hsg, q⟩ := h
    refine ⟨_, (pss_cons (ps_set (i := 2) scFar.nd rfl (Or.inl rfl) (pe_call G.gg (hr.mono (by decide)) (by rfl) G.DG.m G.DG.F.kp G.DG.b .nil pass0 (pa_cons (pv 0) (pa_cons (pv 1) (pa_cons pe_int pa_nil)))))
    (pss_cons (ps_par (i := 3) (j := 4) (by rfl) scFar.nd rfl rfl (by decide) rfl rfl (pa_cons (pe_call G.gz (hr.mono (by decide)) (by rfl) G.DZ.m G.DZ.F.kp G.DZ.b .nil pass0 (pa_cons (pv 2) pa_nil)) (pa_cons (pe_make C.MK.M C.MK.gi (hr.mono (by decide)) (by rfl) C.W.gP C.MK.bi .nil pass0 (pa_cons (pv 1) (pa_cons (pe_callTy call_tuple_of (by rfl) T.tuple (by decide +kernel) (pa_cons (pv 2) pa_nil)) pa_nil))) pa_nil)) (by rfl))
    (pss_cons (ps_if (pt_cmpR op_ne (pe_callB (call_show still hr.units) (by rfl) T.repr (by decide +kernel) (pa_cons (pe_prop (pv 4) C.W.cl C.pSi C.gSi (hr.mono (by decide)) C.bSi .nil pass0 rfl) pa_nil)) (pe_callB (call_show still hr.units) (by rfl) T.repr (by decide +kernel) (pa_cons (pe_ix ix_list (pv 3) (pe_un un_neg pe_int) (fun _ _ => rfl)) pa_nil)) (nomark _)) (pss_one (ps_ret pe_bl)) pss_nil)
    (pss_cons (ps_for PassesOwn.never rfl (pi_range1 rfl T.range (pa_cons (pe_ifExp (pt_cmpR op_gt (pe_ix ix_list (pv 3) (pe_un un_neg pe_int) (fun _ _ => rfl)) pe_int (nomark _)) pe_int pe_int) pa_nil)) (pg_name (i := 5) scFar.nd rfl (Or.inl rfl))
      (pss_cons (ps_set (i := 6) scFar.nd rfl (Or.inl rfl) (pe_call G.gp (hr.mono (by decide)) (by rfl) G.DP.m G.DP.F.kp G.DP.b .nil pass0 (pa_cons (pv 0) (pa_cons (pe_lst (pa_cons pe_int (pa_cons (pe_op op_sub (pe_ix ix_list (pv 3) (pe_un un_neg pe_int) (fun _ _ => rfl)) pe_int) (pa_cons (pe_call G.gb (hr.mono (by decide)) (by rfl) G.DB.m G.DB.F.kp G.DB.b .nil pass0 (pa_cons (pv 0) (pa_cons (pe_ix ix_list (pv 3) (pe_un un_neg pe_int) (fun _ _ => rfl)) pa_nil))) (pa_cons (pe_callTy call_int1 (by rfl) T.int (by decide +kernel) (pa_cons (pe_op op_fdivN (pe_ix ix_list (pv 3) (pe_un un_neg pe_int) (fun _ _ => rfl)) pe_int) pa_nil)) pa_nil))))) pa_nil))))
      (pss_one (ps_if (pt_cmpR op_ne (Ow.pe_ixOwn C.gIx (hr.mono (by decide)) C.sIx C.fIxI C.fnIx C.bIx pass0 (pv 4) (pv 6) (fun _ _ => rfl)) (pe_call G.ga (hr.mono (by decide)) (by rfl) G.DA.m G.DA.F.kp G.DA.b .nil pass0 (pa_cons (pv 2) (pa_cons (pv 3) (pa_cons (pe_op op_sub (pe_callB call_len_seq (by rfl) T.len PySem.boot_len (pa_cons (pv 2) pa_nil)) pe_int) (pa_cons (pv 6) pa_nil))))) (nomark _)) (pss_one (ps_ret pe_bl)) pss_nil))))
    (pss_one (ps_ret pe_bl)))))), ?_⟩
    refine ⟨_, rfl, _, rfl, c, sg, 6, rfl, hc, hsg, by decide, by decide, fun pS ss H1 hS dS nS mS hc1 b1 => ?_⟩
    have zS := great_Z dS (by omega)
    have zS4 : ∀ i, i < ss.length → Z ss i < 10 ^ 400 := fun i hi => Nat.lt_trans (zS i hi) big_le.2.1
    have okS : okP sg ss := ⟨dS.ok, nS, by omega, zS4⟩
    refine ⟨_, rfl, sg, pS, ss, rfl, hS, dS.ok, zS4, by omega, fun pM H2 nM s2 eM => ?_⟩
    have hS2 := hS.same s2
    refine ep_make (C := CC) (ev_var (i := 1) rfl) (er_tuple (K := K) (el_var (i := 2) rfl hS2)) hsg okS H2 (Same.refl _) _ fun pP H3 s3 hP => ⟨_, _, rfl, ?_⟩
    have hS3 := hS2.same s3
    have eM3 := s3 _ _ eM
    have hc3 := hc1.same (s2.trans s3)
    have b03 := b1.trans (But.of (c := c) (s2.trans s3))
    have zl := zS (ss.length - 1) (by omega)
    obtain ⟨sh1, sh2⟩ := show_big zl
    dsimp only
    show tSeq (tIfS _ _ _) _ _ [some (.ref c), some (.str sg), some (.ref pS), some (.ref pM), some (.ref pP), none, none] H3
    refine seq_if (H0 := H3) (ef_ne (z := PyData.shown (.int (Z ss (ss.length - 1) : Int))) (fun H' s' Q' q' => ?_) (fun H' s' Q' q' => ?_)) (Same.refl _) fun H4 s4 => ?_
    · refine ev_size (ep_var (i := 4) rfl hP) nS H' s' _ fun H5 s5 => ?_
      exact ⟨_, .int (Z ss (ss.length - 1) : Int), rfl, .flat (.int _) rfl, sh1, (by show 0 < 60; decide), sh2, q' H5 s5⟩
    · refine ⟨_, rfl, _, rfl, pM, _, _, _, rfl, rfl, SqL.of (s' _ _ eM3), last_size nS, ?_⟩
      exact ⟨_, .int (Z ss (ss.length - 1) : Int), rfl, .flat (.int _) rfl, sh1, (by show 0 < 60; decide), sh2, q' H' (Same.refl _)⟩
    have hS4 := hS3.same s4
    have hP4 := hP.same s4
    have eM4 := s4 _ _ eM3
    have hc4 := hc3.same s4
    have b04 := b03.trans (But.of s4)
    have nMc : pM ≠ c := hc1.ne nM
    have nSc : pS ≠ c := lst_ne hS nS hc1
    have e4 : (Z ss (ss.length - 1) : Int).natAbs < 2 ^ 9000 := by rw [Int.natAbs_natCast]; exact Nat.lt_trans zl big_le.2.2.1
    obtain ⟨ps, ep, hps⟩ := id hS4
    have lps := steps_len hps
    refine ⟨_, rfl, _, rfl, pM, _, _, _, rfl, rfl, SqL.of eM4, last_size nS, _, _, rfl, rfl, _, rfl, ?_⟩
    by_cases hz : (0 : Int) < (Z ss (ss.length - 1) : Int)
    · rw [decide_eq_true (show (Z ss (ss.length - 1) : Int) > 0 from hz)]
      refine iteT ⟨_, rfl, by decide, by decide, ?_⟩
      refine for_range (n := 4) (fun i σ H => ∃ t5 t6 : Option V, σ = [some (.ref c), some (.str sg), some (.ref pS), some (.ref pM), some (.ref pP), t5, t6] ∧ Cup H c ∧ But c H4 H) ⟨none, none, rfl, hc4, But.refl _ _⟩ ?_ ?_
      · rintro i σ Ha hi ⟨t5, t6, rfl, hca, ba⟩
        have eMa := ba _ _ nMc eM4
        refine ⟨_, rfl, _, rfl, _, rfl, pM, _, _, _, rfl, rfl, SqL.of eMa, last_size nS, _, _, rfl, rfl, ?_⟩
        refine ⟨_, rfl, _, rfl, _, rfl, pM, _, _, _, rfl, rfl, SqL.of eMa, last_size nS, c, _, rfl, hca, hz, e4, fun r Hb r0 r1 hcb bb => ?_⟩
        have eMb := bb _ _ nMc eMa
        refine ⟨_, rfl, _, rfl, pM, _, _, _, rfl, rfl, SqL.of eMb, last_size nS, _, _, rfl, rfl, ⟨by decide, by decide⟩, .inl ⟨_, rfl, ?_⟩⟩
        refine ⟨by show 4 ≤ sizeLine; decide, fun pZ nL => ?_⟩
        refine ⟨c, hcb.same (same_upd nL), .inl ⟨pZ, _, rfl, hcb.ne nL, upd_same, (by show 0 < 4; decide), (by show 4 < 100; decide), fun x Hc hx hcc bc => ?_⟩⟩
        have eMc := bc _ _ nMc ((same_upd nL) _ _ eMb)
        have b4c := ((ba.trans bb).trans (But.of (same_upd nL))).trans bc
        have hPc := hP4.but hc4 b4c
        obtain ⟨dx, a1, a2, hins, _⟩ := id hPc
        obtain ⟨y, rfl, hy⟩ : ∃ y : Nat, x = .int (y : Int) ∧ y < Z ss (ss.length - 1) := by
          simp only [List.mem_cons, List.not_mem_nil, or_false] at hx
          rcases hx with rfl | rfl | rfl | rfl
          · exact ⟨0, rfl, by omega⟩
          · exact ⟨Z ss (ss.length - 1) - 1, congrArg V.int (by omega), by omega⟩
          · exact ⟨r.toNat, congrArg V.int (by omega), by omega⟩
          · exact ⟨Z ss (ss.length - 1) / 2, congrArg V.int (by rw [Int.fdiv_eq_ediv_of_nonneg _ (by decide)]; rfl), by omega⟩
        have hg := List.getElem?_eq_getElem (l := L ss (ss.length - 1)) hy
        have hSc := hS4.but hc4 nSc b4c
        have ep' := b4c _ _ nSc ep
        refine ⟨_, rfl, _, rfl, pP, dx, _, rfl, hins, pP, sg, ss, y, _, rfl, hPc, okS, Nat.lt_trans hy zl, hg, ?_⟩
        refine ⟨_, rfl, _, rfl, _, rfl, pS, _, rfl, .inl (SqL.of ep'), _, _, rfl, rfl, _, rfl, sg, pS, pM, ss, ss.length - 1, y, _, ?_, hSc, eMc, dS.ok, by omega, hg, fun Hd sd => ?_⟩
        · have e : V.int (((ps.map V.ref).length : Int) - 1) = V.int ((ss.length - 1 : Nat) : Int) := congrArg V.int (by rw [List.length_map, lps]; omega)
          show [V.ref pS, V.ref pM, V.int (((ps.map V.ref).length : Int) - 1), V.int (y : Int)] = _
          rw [e]
        · refine ⟨rfl, _, rfl, ?_⟩
          rw [decide_eq_true rfl]
          refine iteF ?_
          exact ⟨_, _, rfl, hcc.same sd, b4c.trans (But.of sd)⟩
      · rintro σ Ha ⟨t5, t6, rfl, hca, ba⟩
        exact q Ha (b04.trans ba) hca
    · rw [decide_eq_false (show ¬ (Z ss (ss.length - 1) : Int) > 0 from hz)]
      refine iteF ⟨_, rfl, by decide, by decide, ?_⟩
      refine for_range (n := 0) (fun i σ H => ∃ t5 t6 : Option V, σ = [some (.ref c), some (.str sg), some (.ref pS), some (.ref pM), some (.ref pP), t5, t6] ∧ Cup H c ∧ But c H4 H) ⟨none, none, rfl, hc4, But.refl _ _⟩ (fun i σ H hi => absurd hi (Nat.not_lt_zero _)) ?_
      rintro σ Ha ⟨t5, t6, rfl, hca, ba⟩
      exact q Ha (b04.trans ba) hca
end
end K58

set_option Elab.async false
set_option linter.all false
set_option maxRecDepth 100000
set_option maxHeartbeats 6400000
namespace K58
open PySem L2 Tx Tg Tm Sm
section
variable {K : PySem.W.Frag} {C : Addr} {σ : L2.St} {H0 H : Hp} {sg : Str} {ss tt : List Stp} {s1 s2 s3 s4 : Stp} {t ta tb tc td : TE} {x y v : V} {n c : Nat} {D : Ends} {d : PyData}
theorem er_four (e1 : EvS ta σ H0 s1) (e2 : EvS tb σ H0 s2) (e3 : EvS tc σ H0 s3) (e4 : EvS td σ H0 s4) : EvR (tTup (tCons ta (tCons tb (tCons tc (tCons td tNil))))) σ H0 [s1, s2, s3, s4] := fun H s Q q =>
  e1 H s _ fun p1 H1 k1 h1 => e2 H1 (s.trans k1) _ fun p2 H2 k2 h2 => e3 H2 ((s.trans k1).trans k2) _ fun p3 H3 k3 h3 => e4 H3 (((s.trans k1).trans k2).trans k3) _ fun p4 H4 k4 h4 =>
    ⟨(by show 4 ≤ sizeLine; decide), fun r nr => q r _ ((((k1.trans k2).trans k3).trans k4).trans (same_upd nr)) ⟨[p1, p2, p3, p4], upd_same,
      .cons ((same_upd nr) _ _ (k4 _ _ (k3 _ _ (k2 _ _ h1)))) (.cons ((same_upd nr) _ _ (k4 _ _ (k3 _ _ h2))) (.cons ((same_upd nr) _ _ (k4 _ _ h3)) (.cons ((same_upd nr) _ _ h4) .nil)))⟩⟩
theorem ev_ixP (e1 : EvP C ta σ H0 sg ss) (e2 : EvV tb σ H0 (.int (n : Int))) (ok : okP sg ss) (hn : n < 10 ^ 200) (hg : (L ss (ss.length - 1))[n]? = some c) : EvV (tOp (Ow.rOwnIx C (spPIx C) E0) ta tb) σ H0 (.str (one c)) := fun H s Q q =>
  e1 H s _ fun p H1 s1 hp => e2 H1 (s.trans s1) _ fun H2 s2 => by
    have hp := hp.same s2
    obtain ⟨dx, a, b, ep, _⟩ := id hp
    exact ⟨p, dx, _, rfl, ep, p, sg, ss, n, c, rfl, hp, ok, hn, hg, q H2 (s1.trans s2)⟩
theorem ret_eq (s : Same H0 H) (e1 : EvD K ta σ H0 d) (e2 : EvD K tb σ H0 d) (h1 : SeqAt.shaped d = true) (h2 : PyData.eqv d d = true) (q : ∀ H', D.rt (.bl true) H') : tRet (tOp (rEqD K) ta tb) D σ H := by
  refine e1 H s _ fun v1 H1 s1 hv1 => e2 H1 (s.trans s1) _ fun v2 H2 s2 hv2 => ?_
  refine ⟨d, d, hv1 _ s2, hv2 _ (Same.refl _), h1, h1, ?_⟩
  rw [h2]
  exact q H2
end
abbrev fSteps (M : Nat) : List Stp := [.txt "ab", .pow 0 M, .txt "b", .join 1 2]
theorem f_ok {M : Nat} (hM : M ≤ 10 ^ 100) : okStps "ab" (fSteps M) := fun i s e => by
  have h1 : Over "ab" "ab" := fun c h => h
  have h2 : Over "ab" "b" := by unfold Over; decide +kernel
  match i, e with
  | 0, e => cases e; exact ⟨h1, by decide +kernel⟩
  | 1, e => cases e; exact ⟨by decide, hM⟩
  | 2, e => cases e; exact ⟨h2, by decide +kernel⟩
  | 3, e => cases e; exact ⟨by decide, by decide⟩
  | n + 4, e => cases e
theorem two_len : ("ab" : Str).length = 2 ∧ ("b" : Str).length = 1 := by decide +kernel
theorem f_Z {M : Nat} (hM : M ≤ 10 ^ 100) : Z (fSteps M) 0 = 2 ∧ Z (fSteps M) 1 = 2 * M ∧ Z (fSteps M) 2 = 1 ∧ Z (fSteps M) 3 = 2 * M + 1 := by
  have g := (f_ok hM).good
  have z0 : Z (fSteps M) 0 = 2 := (Z_at (i := 0) (s := .txt "ab") g rfl).trans two_len.1
  have z2 : Z (fSteps M) 2 = 1 := (Z_at (i := 2) (s := .txt "b") g rfl).trans two_len.2
  have z1 : Z (fSteps M) 1 = 2 * M := by
    rw [Z_at (i := 1) (s := .pow 0 M) g rfl]
    show Z (fSteps M) 0 * M = _
    rw [z0]
  refine ⟨z0, z1, z2, ?_⟩
  rw [Z_at (i := 3) (s := .join 1 2) g rfl]
  show Z (fSteps M) 1 + Z (fSteps M) 2 = _
  rw [z1, z2]
theorem f_okP {M : Nat} (hM : M ≤ 10 ^ 100) : okP "ab" (fSteps M) := ⟨f_ok hM, (by show 1 ≤ 4; decide), (by show 4 ≤ 40; decide), fun i hi => by
  obtain ⟨z0, z1, z2, z3⟩ := f_Z hM
  have big : 2 * 10 ^ 100 + 3 < (10 : Nat) ^ 400 := by decide +kernel
  generalize (10 : Nat) ^ 400 = B at big ⊢
  generalize (10 : Nat) ^ 100 = B1 at big hM
  match i, hi with
  | 0, _ => rw [z0]; omega
  | 1, _ => rw [z1]; omega
  | 2, _ => rw [z2]; omega
  | 3, _ => rw [z3]; omega
  | n + 4, hi => exact absurd hi (by show ¬ n + 4 < 4; omega)⟩
theorem f_get {M : Nat} (hM : M ≤ 10 ^ 100) {n c : Nat} (h : n < 2 * M) (hc : (cds ("ab" : Str))[n % 2]? = some c) : (L (fSteps M) 3)[n]? = some c := by
  obtain ⟨z0, z1, z2, z3⟩ := f_Z hM
  have g := (f_ok hM).good
  have j := join_get (n := 3) (a := 1) (b := 2) g rfl n
  rw [j, z1, if_pos h]
  obtain ⟨hp, _⟩ := pow_get (n := 1) (a := 0) (k := M) g rfl (x := n) (by rw [z1]; exact h)
  rw [hp, z0, L_at (i := 0) (s := .txt "ab") g rfl]
  exact hc
theorem f_last {M : Nat} (hM : M ≤ 10 ^ 100) : (L (fSteps M) 3)[2 * M]? = some 98 := by
  obtain ⟨z0, z1, z2, z3⟩ := f_Z hM
  have g := (f_ok hM).good
  have j := join_get (n := 3) (a := 1) (b := 2) g rfl (2 * M)
  rw [j, z1, if_neg (Nat.lt_irrefl _), Nat.sub_self, L_at (i := 2) (s := .txt "b") g rfl]
  exact (show (cds ("b" : Str))[0]? = some 98 by decide +kernel)
theorem m30_le : (10 ^ 30 : Nat) ≤ 10 ^ 100 := by decide +kernel
theorem f_gets : ∀ M : Nat, M ≤ 10 ^ 100 → 1 ≤ M → M % 2 = 0 → (L (fSteps M) 3)[M]? = some 97 ∧ (L (fSteps M) 3)[2 * M]? = some 98 ∧ (L (fSteps M) 3)[2 * M - 1]? = some 98 := fun M hM h1 h2 =>
  ⟨f_get hM (by omega) (by rw [h2]; decide +kernel), f_last hM, f_get hM (by omega) (by rw [show (2 * M - 1) % 2 = 1 by omega]; decide +kernel)⟩
theorem one_ab : one 97 = ("a" : Str) ∧ one 98 = ("b" : Str) := by decide +kernel
abbrev dFar : PyData := .list [.int (2 * 10 ^ 30 + 1), .str "a", .str "b", .str "b", .int 4]
theorem far_sh : SeqAt.shaped dFar = true := by decide +kernel
theorem far_eq : PyData.eqv dFar dFar = true := by decide +kernel
abbrev nLaw : List Str := ["_law_script", "_law_at", "_law_cup_here", "_law_signs_here", "_law_far"]
def spLaw (K : PySem.W.Frag) : Sp := fun vs H Q _ => ∃ (a : Addr) (ns : List Int), vs = [.ref a] ∧ SqL K H a (ns.map V.int) ∧ ns.length ≤ 63 ∧ ∀ H', Q (.bl true) H'
theorem scLaw : FnScope nLaw ["_law_script"] (defScope sLaw) := ⟨rfl, rfl, rfl, by decide +kernel, rfl, by decide +kernel, by decide +kernel⟩
section
variable {P : Program} {w : World} {K : PySem.W.Frag} {mg : Str → Option Value} {base : Heap}
theorem ok_law {CC f fC fS fT fR : Addr} {fd dC dS dT dR : FuncData} (F : Fun K "law" "law" sLaw f fd) (T : Txt K mg) (C : Cl P w K mg base CC)
    (DC : Df K mg "_law_cup" sCup ["_law_script", "_law_at"] fC dC) (DS : Df K mg "_law_signs" sSigns ["_law_cup_here"] fS dS) (DT : Df K mg "_law_short_right" sShort ["_law_cup_here", "_law_signs_here"] fT dT) (DR : Df K mg "_law_far_right" sFar ["_law_cup_here", "_law_signs_here"] fR dR)
    (GC : FnOk P w K mg base CX0 1 fC dC ["_law_script", "_law_at"] (spCup K)) (GS : FnOk P w K mg base CX0 3 fS dS ["_law_cup_here"] spSigns) (GT : Kept P w K mg base CX0 11 fT dT ["_law_cup_here", "_law_signs_here"] spShort) (GR : Kept P w K mg base CX0 11 fR dR ["_law_cup_here", "_law_signs_here"] spShort) :
    Kept P w K mg base CX0 12 f fd ["_law_script"] (spLaw K) := by
  refine Kept.fn F scLaw (fun vs H Q E h => ?_) (fun cdv A outer s H vs Q E hr still h => ?_)
  · obtain ⟨a, ns, rfl, _⟩ := h
    rfl
  · obtain ⟨a, ns, rfl, hS, hlen, q⟩ := h
    refine ⟨_, (pss_cons (ps_for PassesOwn.never rfl (pi_range1 rfl T.range (pa_cons (pe_callB (call_max2 rfl) (by rfl) T.max (by decide +kernel) (pa_cons pe_int (pa_cons (pe_callB (call_min2 rfl) (by rfl) T.min (by decide +kernel) (pa_cons pe_int (pa_cons (pe_callB call_len (by rfl) T.len PySem.boot_len (pa_cons (pv 0) pa_nil)) pa_nil))) pa_nil))) pa_nil)) (pg_name (i := 1) scLaw.nd rfl (Or.inl rfl))
      (pss_cons (ps_set (i := 2) scLaw.nd rfl (Or.inl rfl) (pe_call GC (hr.mono (by decide)) (by rfl) DC.m DC.F.kp DC.b .nil pass0 (pa_cons (pv 0) (pa_cons (pv 1) pa_nil))))
      (pss_cons (ps_set (i := 3) scLaw.nd rfl (Or.inl rfl) (pe_call GS (hr.mono (by decide)) (by rfl) DS.m DS.F.kp DS.b .nil pass0 (pa_cons (pv 2) pa_nil)))
      (pss_one (ps_if (PW.pt (pw_or (pt_not (pt_val (pe_callG GT hr still (by rfl) DT.m DT.F.kp DT.b .nil pass0 (pa_cons (pv 2) (pa_cons (pv 3) pa_nil))))) (pw_or1 (pt_not (pt_val (pe_callG GR hr still (by rfl) DR.m DR.F.kp DR.b .nil pass0 (pa_cons (pv 2) (pa_cons (pv 3) pa_nil)))))))) (pss_one (ps_ret pe_bl)) pss_nil)))))
    (pss_cons (ps_set (i := 4) scLaw.nd rfl (Or.inl rfl) (pe_make C.MK.M C.MK.gi (hr.mono (by decide)) (by rfl) C.W.gP C.MK.bi .nil pass0 (pa_cons pe_str (pa_cons (pe_tup (pa_cons (pe_tup (pa_cons pe_str (pa_cons pe_str pa_nil))) (pa_cons (pe_tup (pa_cons pe_str (pa_cons pe_int (pa_cons (pe_op op_pow pe_int pe_int) pa_nil)))) (pa_cons (pe_tup (pa_cons pe_str (pa_cons pe_str pa_nil))) (pa_cons (pe_tup (pa_cons pe_str (pa_cons pe_int (pa_cons pe_int pa_nil)))) pa_nil))))) pa_nil))))
    (pss_one (ps_ret (pe_cmpR (op_eqD hr.units) (pe_lst (pa_cons (pe_prop (pv 4) C.W.cl C.pSi C.gSi (hr.mono (by decide)) C.bSi .nil pass0 rfl) (pa_cons (Ow.pe_ixOwn C.gIx (hr.mono (by decide)) C.sIx C.fIxI C.fnIx C.bIx pass0 (pv 4) (pe_op op_pow pe_int pe_int) (fun _ _ => rfl)) (pa_cons (Ow.pe_ixOwn C.gIx (hr.mono (by decide)) C.sIx C.fIxI C.fnIx C.bIx pass0 (pv 4) (pe_op op_mul pe_int (pe_op op_pow pe_int pe_int)) (fun _ _ => rfl)) (pa_cons (Ow.pe_ixOwn C.gIx (hr.mono (by decide)) C.sIx C.fIxI C.fnIx C.bIx pass0 (pv 4) (pe_op op_sub (pe_op op_mul pe_int (pe_op op_pow pe_int pe_int)) pe_int) (fun _ _ => rfl)) (pa_cons (pe_callB (Ow.len_own C.gLn (hr.mono (by decide)) C.sLn C.fnLn C.bLn pass0) (by rfl) T.len PySem.boot_len (pa_cons (pv 4) pa_nil)) pa_nil)))))) (pe_lst (pa_cons (pe_op op_add (pe_op op_mul pe_int (pe_op op_pow pe_int pe_int)) pe_int) (pa_cons pe_str (pa_cons pe_str (pa_cons pe_str (pa_cons pe_int pa_nil)))))) (nomark _)))))), ?_⟩
    have bj : ∀ n : Int, 0 ≤ n → n ≤ 63 → (-(2 ^ 62) ≤ (if (if n < 2 then n else 2) > 1 then (if n < 2 then n else 2) else 1) ∧ (if (if n < 2 then n else 2) > 1 then (if n < 2 then n else 2) else 1) < 2 ^ 62) ∧ (if (if n < 2 then n else 2) > 1 then (if n < 2 then n else 2) else (1 : Int)).toNat ≤ 2 := by
      intro n h0 h1
      repeat' split
      all_goals omega
    obtain ⟨⟨bj1, bj2⟩, bj3⟩ := bj ns.length (by omega) (by omega)
    refine ⟨_, rfl, _, ns.length, rfl, .inl ⟨_, hS, by rw [List.length_map]⟩, _, _, rfl, _, _, rfl, _, rfl, bj1, bj2, for_range (n := _) (fun i σ H1 => ∃ u1 u2 u3 : Option V, σ = [some (.ref a), u1, u2, u3, none] ∧ Same H H1)
      ⟨none, none, none, rfl, Same.refl H⟩ ?_ ?_⟩
    · rintro k σ H1 hk ⟨u1, u2, u3, rfl, s1⟩
      have hk3 : k < 2 := Nat.lt_of_lt_of_le hk bj3
      refine ⟨_, rfl, _, rfl, a, ns, k, congrArg (fun z => [V.ref a, V.int z]) (Int.zero_add _), s1.seq hS, hlen, by omega, fun c H2 nc s2 hc2 => ?_⟩
      have nc0 : H c = none := free_none s1 nc
      refine ⟨_, rfl, c, rfl, hc2, fun sg H3 hsg hc3 b3 => ?_⟩
      refine ⟨_, rfl, _, rfl, c, sg, rfl, hc3, hsg, fun H4 b4 hc4 => ⟨_, rfl, iteF ?_⟩⟩
      refine ⟨_, rfl, _, rfl, c, sg, rfl, hc4, hsg, fun H5 b5 hc5 => ⟨_, rfl, iteF ?_⟩⟩
      refine ⟨_, _, _, rfl, fun b o e => ?_⟩
      have nb := ne_of_none e nc0
      exact b5 _ _ nb (b4 _ _ nb (b3 _ _ nb (s2 _ _ (s1 _ _ e))))
    · rintro σ H1 ⟨u1, u2, u3, rfl, s1⟩
      have sab : Signs "ab" := .inl rfl
      obtain ⟨z0, z1, z2, z3⟩ := f_Z m30_le
      obtain ⟨g1, g2, g3⟩ := f_gets (10 ^ 30) m30_le (by decide +kernel) (by decide +kernel)
      have e30 : (10 : Int) ^ Int.toNat 30 = ((10 ^ 30 : Nat) : Int) := by decide +kernel
      have p30 : ∀ σ H0, EvV (tOp (rI (fun i j => 0 ≤ j ∧ j ≤ 1000000 ∧ i.natAbs < 2 ^ 64) fun i j => V.int (i ^ j.toNat)) (tC (.int 10)) (tC (.int 30))) σ H0 (.int ((10 ^ 30 : Nat) : Int)) := fun σ H0 =>
        (ev_op ev_c ev_c fun H Q q => ⟨_, _, rfl, rfl, ⟨by decide, by decide, by decide⟩, q⟩).to (congrArg V.int e30)
      have m30 : ∀ σ H0, EvV (tOp (rI (fun i j => (-(2 ^ 64) < i ∧ i < 2 ^ 64) ∨ (-(2 ^ 64) < j ∧ j < 2 ^ 64)) fun i j => V.int (i * j)) (tC (.int 2)) (tOp (rI (fun i j => 0 ≤ j ∧ j ≤ 1000000 ∧ i.natAbs < 2 ^ 64) fun i j => V.int (i ^ j.toNat)) (tC (.int 10)) (tC (.int 30)))) σ H0 (.int ((2 * 10 ^ 30 : Nat) : Int)) := fun σ H0 =>
        (ev_op ev_c (p30 σ H0) fun H Q q => ⟨_, _, rfl, rfl, .inl ⟨by decide, by decide⟩, q⟩).to (congrArg V.int (by decide +kernel))
      refine seq_asgP (i := 4) (ep_make (C := CC) (ev_c (x := .str "ab")) (er_four (es_txt (ev_c (x := .str "ab"))) (es_pow (a := 0) ev_c (p30 _ _)) (es_txt (ev_c (x := .str "b"))) (es_join (a := 1) (b := 2) ev_c ev_c)) sab (f_okP m30_le)) (Same.refl H1) fun pF H2 s2 hF => ?_
      have E1 := ed_lst (K := K) (σ := [some (.ref a), u1, u2, u3, some (.ref pF)]) (H0 := H2) (ed_cons (ed_I (ev_size (ep_var (i := 4) rfl hF) (by decide))) (ed_cons (ed_S (ev_ixP (ep_var (i := 4) rfl hF) (p30 _ _) (f_okP m30_le) (by decide +kernel) g1))
        (ed_cons (ed_S (ev_ixP (ep_var (i := 4) rfl hF) (m30 _ _) (f_okP m30_le) (by decide +kernel) g2)) (ed_cons (ed_S (ev_ixP (ep_var (i := 4) rfl hF) ((ev_op (r := rI0 fun i j => V.int (i - j)) (m30 _ _) (ev_c (x := .int 1)) fun H Q q => ⟨_, _, rfl, rfl, q⟩).to (congrArg V.int (show ((2 * 10 ^ 30 : Nat) : Int) - 1 = ((2 * 10 ^ 30 - 1 : Nat) : Int) by decide +kernel))) (f_okP m30_le) (by decide +kernel) g3))
        (ed_cons (ed_I (ev_len (ep_var (i := 4) rfl hF) (by decide))) ed_nil))))) (by show 5 ≤ 10; decide)
      have E2 := ed_lst (K := K) (σ := [some (.ref a), u1, u2, u3, some (.ref pF)]) (H0 := H2) (ed_cons (ed_I ((ev_op (r := rI0 fun i j => V.int (i + j)) (m30 _ _) (ev_c (x := .int 1)) fun H Q q => ⟨_, _, rfl, rfl, q⟩).to (congrArg V.int (show ((2 * 10 ^ 30 : Nat) : Int) + 1 = 2 * 10 ^ 30 + 1 by decide +kernel))))
        (ed_cons (ed_S (ev_c (x := .str "a"))) (ed_cons (ed_S (ev_c (x := .str "b"))) (ed_cons (ed_S (ev_c (x := .str "b"))) (ed_cons (ed_I (ev_c (x := .int 4))) ed_nil))))) (by show 5 ≤ 10; decide)
      have ez : [PyData.int (Z (fSteps (10 ^ 30)) ((fSteps (10 ^ 30)).length - 1) : Int), .str (one 97), .str (one 98), .str (one 98), .int ((fSteps (10 ^ 30)).length : Int)] = [.int (2 * 10 ^ 30 + 1), .str "a", .str "b", .str "b", .int 4] := by
        rw [show Z (fSteps (10 ^ 30)) ((fSteps (10 ^ 30)).length - 1) = 2 * 10 ^ 30 + 1 from z3, show ((2 * 10 ^ 30 + 1 : Nat) : Int) = 2 * 10 ^ 30 + 1 by decide +kernel, one_ab.1, one_ab.2]
        rfl
      rw [ez] at E1
      exact ret_eq (Same.refl H2) E1 E2 far_sh far_eq fun H5 => q H5
end
end K58

set_option Elab.async false
set_option linter.all false
set_option maxRecDepth 100000
set_option maxHeartbeats 6400000
namespace K58
open PySem L2 Tx Tg Tm Sm
theorem df_mk {K : PySem.W.Frag} {h : Heap} {mg : Str → Option Value} {x : Str} {st : Stmt} {ps : List Str} {f : Addr} {oc kV dc pm cd ct : Value} {od an : Option Addr} {sl : Array (Option Value)} (X : K.In h) (G : h.Ns mainGlobals mg)
    (a : PySem.W.nsIn K mainGlobals x = some (some (.ref f))) (l : K.lookup f = some ⟨oc, od, .func (PySem.W.fnOf x x (defArgs st) (defBody st) (defScope st) .none kV dc pm an cd ct), sl⟩)
    (c : PySem.W.codeIn K cd x = true) (k : PySem.W.keepIn K (.ref f) = true)
    (hb : ∀ (kV doc pm : Value) (an : Option Addr) (cdv ct : Value) (us : List Value), us.length = ps.length → bindArgs (PySem.W.fnOf x x (defArgs st) (defBody st) (defScope st) .none kV doc pm an cdv ct) ⟨us, []⟩ = pure (ps.zip us)) :
    Df K mg x st ps f (PySem.W.fnOf x x (defArgs st) (defBody st) (defScope st) .none kV dc pm an cd ct) :=
  have F := fun_mk (st := st) l c k
  ⟨F, PySem.W.mg_of X G a, F.binds hb⟩
theorem kit_self {K : PySem.W.Frag} {C : Addr} : PySem.W.kitOne K (.ref C) (.ref C) = some true := by
  unfold PySem.W.kitOne
  rw [if_pos (beq_self_eq_true _)]
theorem all_mk {l : PySem.W.OpenLaw} {w : World} {K : PySem.W.Frag} {h : Heap} {mg : Str → Option Value} {fa CT CP : Addr} (X : K.In h) (G : h.Ns mainGlobals mg) (hfa : mg "law" = some (.ref fa))
    (hx1 : ∃ n t, n = 10 ^ 200 ∧ mg "LEAST_TOO_LONG" = some (.int n t))
    (hx2 : ∃ n t, n = 10 ^ 100 ∧ mg "MAX_NUMBER" = some (.int n t))
    (hx3 : ∃ n t, n = 10 ^ 400 ∧ mg "MAX_SIZE" = some (.int n t))
    {f1 : Addr} {od1 an1 : Option Addr} {sl1 : Array (Option Value)} {oc1 kV1 dc1 pm1 cd1 ct1 : Value}
    (a1 : PySem.W.nsIn K mainGlobals "is_integer" = some (some (.ref f1))) (l1 : K.lookup f1 = some ⟨oc1, od1, .func (PySem.W.fnOf "is_integer" "is_integer" (defArgs sInt) (defBody sInt) (defScope sInt) .none kV1 dc1 pm1 an1 cd1 ct1), sl1⟩) (c1 : PySem.W.codeIn K cd1 "is_integer" = true) (k1 : PySem.W.keepIn K (.ref f1) = true)
    {f2 : Addr} {od2 an2 : Option Addr} {sl2 : Array (Option Value)} {oc2 kV2 dc2 pm2 cd2 ct2 : Value}
    (a2 : PySem.W.nsIn K mainGlobals "is_letters" = some (some (.ref f2))) (l2 : K.lookup f2 = some ⟨oc2, od2, .func (PySem.W.fnOf "is_letters" "is_letters" (defArgs sLetters) (defBody sLetters) (defScope sLetters) .none kV2 dc2 pm2 an2 cd2 ct2), sl2⟩) (c2 : PySem.W.codeIn K cd2 "is_letters" = true) (k2 : PySem.W.keepIn K (.ref f2) = true)
    {f3 : Addr} {od3 an3 : Option Addr} {sl3 : Array (Option Value)} {oc3 kV3 dc3 pm3 cd3 ct3 : Value}
    (a3 : PySem.W.nsIn K mainGlobals "is_text" = some (some (.ref f3))) (l3 : K.lookup f3 = some ⟨oc3, od3, .func (PySem.W.fnOf "is_text" "is_text" (defArgs sText) (defBody sText) (defScope sText) .none kV3 dc3 pm3 an3 cd3 ct3), sl3⟩) (c3 : PySem.W.codeIn K cd3 "is_text" = true) (k3 : PySem.W.keepIn K (.ref f3) = true)
    {f4 : Addr} {od4 an4 : Option Addr} {sl4 : Array (Option Value)} {oc4 kV4 dc4 pm4 cd4 ct4 : Value}
    (a4 : PySem.W.nsIn K mainGlobals "check_letters" = some (some (.ref f4))) (l4 : K.lookup f4 = some ⟨oc4, od4, .func (PySem.W.fnOf "check_letters" "check_letters" (defArgs sCheck) (defBody sCheck) (defScope sCheck) .none kV4 dc4 pm4 an4 cd4 ct4), sl4⟩) (c4 : PySem.W.codeIn K cd4 "check_letters" = true) (k4 : PySem.W.keepIn K (.ref f4) = true)
    {f5 : Addr} {od5 an5 : Option Addr} {sl5 : Array (Option Value)} {oc5 kV5 dc5 pm5 cd5 ct5 : Value}
    (a5 : PySem.W.nsIn K mainGlobals "has_only" = some (some (.ref f5))) (l5 : K.lookup f5 = some ⟨oc5, od5, .func (PySem.W.fnOf "has_only" "has_only" (defArgs sHas) (defBody sHas) (defScope sHas) .none kV5 dc5 pm5 an5 cd5 ct5), sl5⟩) (c5 : PySem.W.codeIn K cd5 "has_only" = true) (k5 : PySem.W.keepIn K (.ref f5) = true)
    {f6 : Addr} {od6 an6 : Option Addr} {sl6 : Array (Option Value)} {oc6 kV6 dc6 pm6 cd6 ct6 : Value}
    (a6 : PySem.W.nsIn K mainGlobals "check_text" = some (some (.ref f6))) (l6 : K.lookup f6 = some ⟨oc6, od6, .func (PySem.W.fnOf "check_text" "check_text" (defArgs sCText) (defBody sCText) (defScope sCText) .none kV6 dc6 pm6 an6 cd6 ct6), sl6⟩) (c6 : PySem.W.codeIn K cd6 "check_text" = true) (k6 : PySem.W.keepIn K (.ref f6) = true)
    {f7 : Addr} {od7 an7 : Option Addr} {sl7 : Array (Option Value)} {oc7 kV7 dc7 pm7 cd7 ct7 : Value}
    (a7 : PySem.W.nsIn K mainGlobals "check_between" = some (some (.ref f7))) (l7 : K.lookup f7 = some ⟨oc7, od7, .func (PySem.W.fnOf "check_between" "check_between" (defArgs sBetween) (defBody sBetween) (defScope sBetween) .none kV7 dc7 pm7 an7 cd7 ct7), sl7⟩) (c7 : PySem.W.codeIn K cd7 "check_between" = true) (k7 : PySem.W.keepIn K (.ref f7) = true)
    {f8 : Addr} {od8 an8 : Option Addr} {sl8 : Array (Option Value)} {oc8 kV8 dc8 pm8 cd8 ct8 : Value}
    (a8 : PySem.W.nsIn K mainGlobals "check_most" = some (some (.ref f8))) (l8 : K.lookup f8 = some ⟨oc8, od8, .func (PySem.W.fnOf "check_most" "check_most" (defArgs sMost) (defBody sMost) (defScope sMost) .none kV8 dc8 pm8 an8 cd8 ct8), sl8⟩) (c8 : PySem.W.codeIn K cd8 "check_most" = true) (k8 : PySem.W.keepIn K (.ref f8) = true)
    {f9 : Addr} {od9 an9 : Option Addr} {sl9 : Array (Option Value)} {oc9 kV9 dc9 pm9 cd9 ct9 : Value}
    (a9 : PySem.W.nsIn K mainGlobals "are_steps" = some (some (.ref f9))) (l9 : K.lookup f9 = some ⟨oc9, od9, .func (PySem.W.fnOf "are_steps" "are_steps" (defArgs sAreSteps) (defBody sAreSteps) (defScope sAreSteps) .none kV9 dc9 pm9 an9 cd9 ct9), sl9⟩) (c9 : PySem.W.codeIn K cd9 "are_steps" = true) (k9 : PySem.W.keepIn K (.ref f9) = true)
    {f10 : Addr} {od10 an10 : Option Addr} {sl10 : Array (Option Value)} {oc10 kV10 dc10 pm10 cd10 ct10 : Value}
    (a10 : PySem.W.nsIn K mainGlobals "is_step" = some (some (.ref f10))) (l10 : K.lookup f10 = some ⟨oc10, od10, .func (PySem.W.fnOf "is_step" "is_step" (defArgs sIsStep) (defBody sIsStep) (defScope sIsStep) .none kV10 dc10 pm10 an10 cd10 ct10), sl10⟩) (c10 : PySem.W.codeIn K cd10 "is_step" = true) (k10 : PySem.W.keepIn K (.ref f10) = true)
    {f11 : Addr} {od11 an11 : Option Addr} {sl11 : Array (Option Value)} {oc11 kV11 dc11 pm11 cd11 ct11 : Value}
    (a11 : PySem.W.nsIn K mainGlobals "is_between" = some (some (.ref f11))) (l11 : K.lookup f11 = some ⟨oc11, od11, .func (PySem.W.fnOf "is_between" "is_between" (defArgs sIsBetween) (defBody sIsBetween) (defScope sIsBetween) .none kV11 dc11 pm11 an11 cd11 ct11), sl11⟩) (c11 : PySem.W.codeIn K cd11 "is_between" = true) (k11 : PySem.W.keepIn K (.ref f11) = true)
    {f12 : Addr} {od12 an12 : Option Addr} {sl12 : Array (Option Value)} {oc12 kV12 dc12 pm12 cd12 ct12 : Value}
    (a12 : PySem.W.nsIn K mainGlobals "step_sizes" = some (some (.ref f12))) (l12 : K.lookup f12 = some ⟨oc12, od12, .func (PySem.W.fnOf "step_sizes" "step_sizes" (defArgs sSizes) (defBody sSizes) (defScope sSizes) .none kV12 dc12 pm12 an12 cd12 ct12), sl12⟩) (c12 : PySem.W.codeIn K cd12 "step_sizes" = true) (k12 : PySem.W.keepIn K (.ref f12) = true)
    {f13 : Addr} {od13 an13 : Option Addr} {sl13 : Array (Option Value)} {oc13 kV13 dc13 pm13 cd13 ct13 : Value}
    (a13 : PySem.W.nsIn K mainGlobals "shifted_steps" = some (some (.ref f13))) (l13 : K.lookup f13 = some ⟨oc13, od13, .func (PySem.W.fnOf "shifted_steps" "shifted_steps" (defArgs sShifted) (defBody sShifted) (defScope sShifted) .none kV13 dc13 pm13 an13 cd13 ct13), sl13⟩) (c13 : PySem.W.codeIn K cd13 "shifted_steps" = true) (k13 : PySem.W.keepIn K (.ref f13) = true)
    {f14 : Addr} {od14 an14 : Option Addr} {sl14 : Array (Option Value)} {oc14 kV14 dc14 pm14 cd14 ct14 : Value}
    (a14 : PySem.W.nsIn K mainGlobals "steps_below" = some (some (.ref f14))) (l14 : K.lookup f14 = some ⟨oc14, od14, .func (PySem.W.fnOf "steps_below" "steps_below" (defArgs sBelow) (defBody sBelow) (defScope sBelow) .none kV14 dc14 pm14 an14 cd14 ct14), sl14⟩) (c14 : PySem.W.codeIn K cd14 "steps_below" = true) (k14 : PySem.W.keepIn K (.ref f14) = true)
    {f15 : Addr} {od15 an15 : Option Addr} {sl15 : Array (Option Value)} {oc15 kV15 dc15 pm15 cd15 ct15 : Value}
    (a15 : PySem.W.nsIn K mainGlobals "steps_to" = some (some (.ref f15))) (l15 : K.lookup f15 = some ⟨oc15, od15, .func (PySem.W.fnOf "steps_to" "steps_to" (defArgs sStepsTo) (defBody sStepsTo) (defScope sStepsTo) .none kV15 dc15 pm15 an15 cd15 ct15), sl15⟩) (c15 : PySem.W.codeIn K cd15 "steps_to" = true) (k15 : PySem.W.keepIn K (.ref f15) = true)
    {f16 : Addr} {od16 an16 : Option Addr} {sl16 : Array (Option Value)} {oc16 kV16 dc16 pm16 cd16 ct16 : Value}
    (a16 : PySem.W.nsIn K mainGlobals "made_by" = some (some (.ref f16))) (l16 : K.lookup f16 = some ⟨oc16, od16, .func (PySem.W.fnOf "made_by" "made_by" (defArgs sMadeBy) (defBody sMadeBy) (defScope sMadeBy) .none kV16 dc16 pm16 an16 cd16 ct16), sl16⟩) (c16 : PySem.W.codeIn K cd16 "made_by" = true) (k16 : PySem.W.keepIn K (.ref f16) = true)
    {f17 : Addr} {od17 an17 : Option Addr} {sl17 : Array (Option Value)} {oc17 kV17 dc17 pm17 cd17 ct17 : Value}
    (a17 : PySem.W.nsIn K mainGlobals "letter_at" = some (some (.ref f17))) (l17 : K.lookup f17 = some ⟨oc17, od17, .func (PySem.W.fnOf "letter_at" "letter_at" (defArgs sLetterAt) (defBody sLetterAt) (defScope sLetterAt) .none kV17 dc17 pm17 an17 cd17 ct17), sl17⟩) (c17 : PySem.W.codeIn K cd17 "letter_at" = true) (k17 : PySem.W.keepIn K (.ref f17) = true)
    {f18 : Addr} {od18 an18 : Option Addr} {sl18 : Array (Option Value)} {oc18 kV18 dc18 pm18 cd18 ct18 : Value}
    (a18 : PySem.W.nsIn K mainGlobals "_law_cup" = some (some (.ref f18))) (l18 : K.lookup f18 = some ⟨oc18, od18, .func (PySem.W.fnOf "_law_cup" "_law_cup" (defArgs sCup) (defBody sCup) (defScope sCup) .none kV18 dc18 pm18 an18 cd18 ct18), sl18⟩) (c18 : PySem.W.codeIn K cd18 "_law_cup" = true) (k18 : PySem.W.keepIn K (.ref f18) = true)
    {f19 : Addr} {od19 an19 : Option Addr} {sl19 : Array (Option Value)} {oc19 kV19 dc19 pm19 cd19 ct19 : Value}
    (a19 : PySem.W.nsIn K mainGlobals "_law_bit" = some (some (.ref f19))) (l19 : K.lookup f19 = some ⟨oc19, od19, .func (PySem.W.fnOf "_law_bit" "_law_bit" (defArgs sBit) (defBody sBit) (defScope sBit) .none kV19 dc19 pm19 an19 cd19 ct19), sl19⟩) (c19 : PySem.W.codeIn K cd19 "_law_bit" = true) (k19 : PySem.W.keepIn K (.ref f19) = true)
    {f20 : Addr} {od20 an20 : Option Addr} {sl20 : Array (Option Value)} {oc20 kV20 dc20 pm20 cd20 ct20 : Value}
    (a20 : PySem.W.nsIn K mainGlobals "_law_pick" = some (some (.ref f20))) (l20 : K.lookup f20 = some ⟨oc20, od20, .func (PySem.W.fnOf "_law_pick" "_law_pick" (defArgs sPick) (defBody sPick) (defScope sPick) .none kV20 dc20 pm20 an20 cd20 ct20), sl20⟩) (c20 : PySem.W.codeIn K cd20 "_law_pick" = true) (k20 : PySem.W.keepIn K (.ref f20) = true)
    {f21 : Addr} {od21 an21 : Option Addr} {sl21 : Array (Option Value)} {oc21 kV21 dc21 pm21 cd21 ct21 : Value}
    (a21 : PySem.W.nsIn K mainGlobals "_law_signs" = some (some (.ref f21))) (l21 : K.lookup f21 = some ⟨oc21, od21, .func (PySem.W.fnOf "_law_signs" "_law_signs" (defArgs sSigns) (defBody sSigns) (defScope sSigns) .none kV21 dc21 pm21 an21 cd21 ct21), sl21⟩) (c21 : PySem.W.codeIn K cd21 "_law_signs" = true) (k21 : PySem.W.keepIn K (.ref f21) = true)
    {f22 : Addr} {od22 an22 : Option Addr} {sl22 : Array (Option Value)} {oc22 kV22 dc22 pm22 cd22 ct22 : Value}
    (a22 : PySem.W.nsIn K mainGlobals "_law_line" = some (some (.ref f22))) (l22 : K.lookup f22 = some ⟨oc22, od22, .func (PySem.W.fnOf "_law_line" "_law_line" (defArgs sLine) (defBody sLine) (defScope sLine) .none kV22 dc22 pm22 an22 cd22 ct22), sl22⟩) (c22 : PySem.W.codeIn K cd22 "_law_line" = true) (k22 : PySem.W.keepIn K (.ref f22) = true)
    {f23 : Addr} {od23 an23 : Option Addr} {sl23 : Array (Option Value)} {oc23 kV23 dc23 pm23 cd23 ct23 : Value}
    (a23 : PySem.W.nsIn K mainGlobals "_law_small_steps" = some (some (.ref f23))) (l23 : K.lookup f23 = some ⟨oc23, od23, .func (PySem.W.fnOf "_law_small_steps" "_law_small_steps" (defArgs sSmall) (defBody sSmall) (defScope sSmall) .none kV23 dc23 pm23 an23 cd23 ct23), sl23⟩) (c23 : PySem.W.codeIn K cd23 "_law_small_steps" = true) (k23 : PySem.W.keepIn K (.ref f23) = true)
    {f24 : Addr} {od24 an24 : Option Addr} {sl24 : Array (Option Value)} {oc24 kV24 dc24 pm24 cd24 ct24 : Value}
    (a24 : PySem.W.nsIn K mainGlobals "_law_lines_of" = some (some (.ref f24))) (l24 : K.lookup f24 = some ⟨oc24, od24, .func (PySem.W.fnOf "_law_lines_of" "_law_lines_of" (defArgs sLinesOf) (defBody sLinesOf) (defScope sLinesOf) .none kV24 dc24 pm24 an24 cd24 ct24), sl24⟩) (c24 : PySem.W.codeIn K cd24 "_law_lines_of" = true) (k24 : PySem.W.keepIn K (.ref f24) = true)
    {f25 : Addr} {od25 an25 : Option Addr} {sl25 : Array (Option Value)} {oc25 kV25 dc25 pm25 cd25 ct25 : Value}
    (a25 : PySem.W.nsIn K mainGlobals "_law_great_steps" = some (some (.ref f25))) (l25 : K.lookup f25 = some ⟨oc25, od25, .func (PySem.W.fnOf "_law_great_steps" "_law_great_steps" (defArgs sGreat) (defBody sGreat) (defScope sGreat) .none kV25 dc25 pm25 an25 cd25 ct25), sl25⟩) (c25 : PySem.W.codeIn K cd25 "_law_great_steps" = true) (k25 : PySem.W.keepIn K (.ref f25) = true)
    {f26 : Addr} {od26 an26 : Option Addr} {sl26 : Array (Option Value)} {oc26 kV26 dc26 pm26 cd26 ct26 : Value}
    (a26 : PySem.W.nsIn K mainGlobals "_law_sizes_of" = some (some (.ref f26))) (l26 : K.lookup f26 = some ⟨oc26, od26, .func (PySem.W.fnOf "_law_sizes_of" "_law_sizes_of" (defArgs sSizesOf) (defBody sSizesOf) (defScope sSizesOf) .none kV26 dc26 pm26 an26 cd26 ct26), sl26⟩) (c26 : PySem.W.codeIn K cd26 "_law_sizes_of" = true) (k26 : PySem.W.keepIn K (.ref f26) = true)
    {f27 : Addr} {od27 an27 : Option Addr} {sl27 : Array (Option Value)} {oc27 kV27 dc27 pm27 cd27 ct27 : Value}
    (a27 : PySem.W.nsIn K mainGlobals "_law_letter_at" = some (some (.ref f27))) (l27 : K.lookup f27 = some ⟨oc27, od27, .func (PySem.W.fnOf "_law_letter_at" "_law_letter_at" (defArgs sLawLetter) (defBody sLawLetter) (defScope sLawLetter) .none kV27 dc27 pm27 an27 cd27 ct27), sl27⟩) (c27 : PySem.W.codeIn K cd27 "_law_letter_at" = true) (k27 : PySem.W.keepIn K (.ref f27) = true)
    {f28 : Addr} {od28 an28 : Option Addr} {sl28 : Array (Option Value)} {oc28 kV28 dc28 pm28 cd28 ct28 : Value}
    (a28 : PySem.W.nsIn K mainGlobals "_law_moved" = some (some (.ref f28))) (l28 : K.lookup f28 = some ⟨oc28, od28, .func (PySem.W.fnOf "_law_moved" "_law_moved" (defArgs sMoved) (defBody sMoved) (defScope sMoved) .none kV28 dc28 pm28 an28 cd28 ct28), sl28⟩) (c28 : PySem.W.codeIn K cd28 "_law_moved" = true) (k28 : PySem.W.keepIn K (.ref f28) = true)
    {f29 : Addr} {od29 an29 : Option Addr} {sl29 : Array (Option Value)} {oc29 kV29 dc29 pm29 cd29 ct29 : Value}
    (a29 : PySem.W.nsIn K mainGlobals "_law_short_right" = some (some (.ref f29))) (l29 : K.lookup f29 = some ⟨oc29, od29, .func (PySem.W.fnOf "_law_short_right" "_law_short_right" (defArgs sShort) (defBody sShort) (defScope sShort) .none kV29 dc29 pm29 an29 cd29 ct29), sl29⟩) (c29 : PySem.W.codeIn K cd29 "_law_short_right" = true) (k29 : PySem.W.keepIn K (.ref f29) = true)
    {f30 : Addr} {od30 an30 : Option Addr} {sl30 : Array (Option Value)} {oc30 kV30 dc30 pm30 cd30 ct30 : Value}
    (a30 : PySem.W.nsIn K mainGlobals "_law_far_right" = some (some (.ref f30))) (l30 : K.lookup f30 = some ⟨oc30, od30, .func (PySem.W.fnOf "_law_far_right" "_law_far_right" (defArgs sFar) (defBody sFar) (defScope sFar) .none kV30 dc30 pm30 an30 cd30 ct30), sl30⟩) (c30 : PySem.W.codeIn K cd30 "_law_far_right" = true) (k30 : PySem.W.keepIn K (.ref f30) = true)
    {f31 : Addr} {od31 an31 : Option Addr} {sl31 : Array (Option Value)} {oc31 kV31 dc31 pm31 cd31 ct31 : Value}
    (a31 : PySem.W.nsIn K mainGlobals "law" = some (some (.ref f31))) (l31 : K.lookup f31 = some ⟨oc31, od31, .func (PySem.W.fnOf "law" "law" (defArgs sLaw) (defBody sLaw) (defScope sLaw) .none kV31 dc31 pm31 an31 cd31 ct31), sl31⟩) (c31 : PySem.W.codeIn K cd31 "law" = true) (k31 : PySem.W.keepIn K (.ref f31) = true)
    (aXT : PySem.W.nsIn K mainGlobals "TextTool" = some (some (.ref CT)))
    (aXP : PySem.W.nsIn K mainGlobals "Program" = some (some (.ref CP)))
    {fT1 : Addr} {odT1 anT1 : Option Addr} {slT1 : Array (Option Value)} {ocT1 kVT1 dcT1 pmT1 cdT1 ctT1 : Value}
    (aT1 : PySem.W.findIn K (.ref CT) "written" = some (some (.ref fT1))) (iT1 : PySem.W.isFn K (.ref fT1) = true) (lT1 : K.lookup fT1 = some ⟨ocT1, odT1, .func (PySem.W.fnOf "written" "TextTool.written" (defArgs sWritten) (defBody sWritten) (defScope sWritten) .none kVT1 dcT1 pmT1 anT1 cdT1 ctT1), slT1⟩) (cT1 : PySem.W.codeIn K cdT1 "TextTool.written" = true) (kT1 : PySem.W.keepIn K (.ref fT1) = true)
    {fT2 : Addr} {odT2 anT2 : Option Addr} {slT2 : Array (Option Value)} {ocT2 kVT2 dcT2 pmT2 cdT2 ctT2 : Value}
    (aT2 : PySem.W.findIn K (.ref CT) "joined" = some (some (.ref fT2))) (iT2 : PySem.W.isFn K (.ref fT2) = true) (lT2 : K.lookup fT2 = some ⟨ocT2, odT2, .func (PySem.W.fnOf "joined" "TextTool.joined" (defArgs sJoined) (defBody sJoined) (defScope sJoined) .none kVT2 dcT2 pmT2 anT2 cdT2 ctT2), slT2⟩) (cT2 : PySem.W.codeIn K cdT2 "TextTool.joined" = true) (kT2 : PySem.W.keepIn K (.ref fT2) = true)
    {fT3 : Addr} {odT3 anT3 : Option Addr} {slT3 : Array (Option Value)} {ocT3 kVT3 dcT3 pmT3 cdT3 ctT3 : Value}
    (aT3 : PySem.W.findIn K (.ref CT) "repeated" = some (some (.ref fT3))) (iT3 : PySem.W.isFn K (.ref fT3) = true) (lT3 : K.lookup fT3 = some ⟨ocT3, odT3, .func (PySem.W.fnOf "repeated" "TextTool.repeated" (defArgs sRepeated) (defBody sRepeated) (defScope sRepeated) .none kVT3 dcT3 pmT3 anT3 cdT3 ctT3), slT3⟩) (cT3 : PySem.W.codeIn K cdT3 "TextTool.repeated" = true) (kT3 : PySem.W.keepIn K (.ref fT3) = true)
    {fIn : Addr} {odIn anIn : Option Addr} {slIn : Array (Option Value)} {ocIn kVIn dcIn pmIn cdIn ctIn : Value}
    (aIn : PySem.W.findIn K (.ref CP) "__init__" = some (some (.ref fIn))) (iIn : PySem.W.isFn K (.ref fIn) = true) (lIn : K.lookup fIn = some ⟨ocIn, odIn, .func (PySem.W.fnOf "__init__" "Program.__init__" (defArgs sPInit) (defBody sPInit) (defScope sPInit) .none kVIn dcIn pmIn anIn cdIn ctIn), slIn⟩) (cIn : PySem.W.codeIn K cdIn "Program.__init__" = true) (kIn : PySem.W.keepIn K (.ref fIn) = true)
    {fPw : Addr} {odPw anPw : Option Addr} {slPw : Array (Option Value)} {ocPw kVPw dcPw pmPw cdPw ctPw : Value}
    (aPw : PySem.W.findIn K (.ref CP) "power" = some (some (.ref fPw))) (iPw : PySem.W.isFn K (.ref fPw) = true) (lPw : K.lookup fPw = some ⟨ocPw, odPw, .func (PySem.W.fnOf "power" "Program.power" (defArgs sPPower) (defBody sPPower) (defScope sPPower) .none kVPw dcPw pmPw anPw cdPw ctPw), slPw⟩) (cPw : PySem.W.codeIn K cdPw "Program.power" = true) (kPw : PySem.W.keepIn K (.ref fPw) = true)
    {fTx : Addr} {odTx anTx : Option Addr} {slTx : Array (Option Value)} {ocTx kVTx dcTx pmTx cdTx ctTx : Value}
    (aTx : PySem.W.findIn K (.ref CP) "text" = some (some (.ref fTx))) (iTx : PySem.W.isFn K (.ref fTx) = true) (lTx : K.lookup fTx = some ⟨ocTx, odTx, .func (PySem.W.fnOf "text" "Program.text" (defArgs sPText) (defBody sPText) (defScope sPText) .none kVTx dcTx pmTx anTx cdTx ctTx), slTx⟩) (cTx : PySem.W.codeIn K cdTx "Program.text" = true) (kTx : PySem.W.keepIn K (.ref fTx) = true)
    {fIx : Addr} {odIx anIx : Option Addr} {slIx : Array (Option Value)} {ocIx kVIx dcIx pmIx cdIx ctIx : Value}
    (aIx : PySem.W.findIn K (.ref CP) "__getitem__" = some (some (.ref fIx))) (iIx : PySem.W.isFn K (.ref fIx) = true) (lIx : K.lookup fIx = some ⟨ocIx, odIx, .func (PySem.W.fnOf "__getitem__" "Program.__getitem__" (defArgs sPIx) (defBody sPIx) (defScope sPIx) .none kVIx dcIx pmIx anIx cdIx ctIx), slIx⟩) (cIx : PySem.W.codeIn K cdIx "Program.__getitem__" = true) (kIx : PySem.W.keepIn K (.ref fIx) = true)
    {fLn : Addr} {odLn anLn : Option Addr} {slLn : Array (Option Value)} {ocLn kVLn dcLn pmLn cdLn ctLn : Value}
    (aLn : PySem.W.findIn K (.ref CP) "__len__" = some (some (.ref fLn))) (iLn : PySem.W.isFn K (.ref fLn) = true) (lLn : K.lookup fLn = some ⟨ocLn, odLn, .func (PySem.W.fnOf "__len__" "Program.__len__" (defArgs sPLen) (defBody sPLen) (defScope sPLen) .none kVLn dcLn pmLn anLn cdLn ctLn), slLn⟩) (cLn : PySem.W.codeIn K cdLn "Program.__len__" = true) (kLn : PySem.W.keepIn K (.ref fLn) = true)
    {fEq : Addr} {odEq anEq : Option Addr} {slEq : Array (Option Value)} {ocEq kVEq dcEq pmEq cdEq ctEq : Value}
    (aEq : PySem.W.findIn K (.ref CP) "__eq__" = some (some (.ref fEq))) (iEq : PySem.W.isFn K (.ref fEq) = true) (lEq : K.lookup fEq = some ⟨ocEq, odEq, .func (PySem.W.fnOf "__eq__" "Program.__eq__" (defArgs sPEq) (defBody sPEq) (defScope sPEq) .none kVEq dcEq pmEq anEq cdEq ctEq), slEq⟩) (cEq : PySem.W.codeIn K cdEq "Program.__eq__" = true) (kEq : PySem.W.keepIn K (.ref fEq) = true)
    {fSr : Addr} {odSr anSr : Option Addr} {slSr : Array (Option Value)} {ocSr kVSr dcSr pmSr cdSr ctSr : Value}
    (aSr : PySem.W.findIn K (.ref CP) "__str__" = some (some (.ref fSr))) (iSr : PySem.W.isFn K (.ref fSr) = true) (lSr : K.lookup fSr = some ⟨ocSr, odSr, .func (PySem.W.fnOf "__str__" "Program.__str__" (defArgs sPStr) (defBody sPStr) (defScope sPStr) .none kVSr dcSr pmSr anSr cdSr ctSr), slSr⟩) (cSr : PySem.W.codeIn K cdSr "Program.__str__" = true) (kSr : PySem.W.keepIn K (.ref fSr) = true)
    {fAd : Addr} {odAd anAd : Option Addr} {slAd : Array (Option Value)} {ocAd kVAd dcAd pmAd cdAd ctAd : Value}
    (aAd : PySem.W.findIn K (.ref CP) "__add__" = some (some (.ref fAd))) (iAd : PySem.W.isFn K (.ref fAd) = true) (lAd : K.lookup fAd = some ⟨ocAd, odAd, .func (PySem.W.fnOf "__add__" "Program.__add__" (defArgs sPAdd) (defBody sPAdd) (defScope sPAdd) .none kVAd dcAd pmAd anAd cdAd ctAd), slAd⟩) (cAd : PySem.W.codeIn K cdAd "Program.__add__" = true) (kAd : PySem.W.keepIn K (.ref fAd) = true)
    {fWi : Addr} {odWi anWi : Option Addr} {slWi : Array (Option Value)} {ocWi kVWi dcWi pmWi cdWi ctWi : Value}
    (aWi : PySem.W.findIn K (.ref CP) "_with" = some (some (.ref fWi))) (iWi : PySem.W.isFn K (.ref fWi) = true) (lWi : K.lookup fWi = some ⟨ocWi, odWi, .func (PySem.W.fnOf "_with" "Program._with" (defArgs sPWith) (defBody sPWith) (defScope sPWith) .none kVWi dcWi pmWi anWi cdWi ctWi), slWi⟩) (cWi : PySem.W.codeIn K cdWi "Program._with" = true) (kWi : PySem.W.keepIn K (.ref fWi) = true)
    {fLe : Addr} {odLe anLe : Option Addr} {slLe : Array (Option Value)} {ocLe kVLe dcLe pmLe cdLe ctLe : Value}
    {pLe : Addr} {restLe : List Value} (aLe : PySem.W.findIn K (.ref CP) "letters" = some (some (.ref pLe))) (gLe' : PySem.W.specialIn K (.ref pLe) "__get__" = some (some (.builtin "property.__get__"))) (tLe : PySem.W.takesIn K (.ref pLe) = some true) (rLe : PySem.W.recIn K pLe "property" = some (.ref fLe :: restLe)) (lLe : K.lookup fLe = some ⟨ocLe, odLe, .func (PySem.W.fnOf "letters" "Program.letters" (defArgs sPLet) (defBody sPLet) (defScope sPLet) .none kVLe dcLe pmLe anLe cdLe ctLe), slLe⟩) (cLe : PySem.W.codeIn K cdLe "Program.letters" = true) (kLe : PySem.W.keepIn K (.ref fLe) = true)
    {fSt : Addr} {odSt anSt : Option Addr} {slSt : Array (Option Value)} {ocSt kVSt dcSt pmSt cdSt ctSt : Value}
    {pSt : Addr} {restSt : List Value} (aSt : PySem.W.findIn K (.ref CP) "steps" = some (some (.ref pSt))) (gSt' : PySem.W.specialIn K (.ref pSt) "__get__" = some (some (.builtin "property.__get__"))) (tSt : PySem.W.takesIn K (.ref pSt) = some true) (rSt : PySem.W.recIn K pSt "property" = some (.ref fSt :: restSt)) (lSt : K.lookup fSt = some ⟨ocSt, odSt, .func (PySem.W.fnOf "steps" "Program.steps" (defArgs sPSteps) (defBody sPSteps) (defScope sPSteps) .none kVSt dcSt pmSt anSt cdSt ctSt), slSt⟩) (cSt : PySem.W.codeIn K cdSt "Program.steps" = true) (kSt : PySem.W.keepIn K (.ref fSt) = true)
    {fSi : Addr} {odSi anSi : Option Addr} {slSi : Array (Option Value)} {ocSi kVSi dcSi pmSi cdSi ctSi : Value}
    {pSi : Addr} {restSi : List Value} (aSi : PySem.W.findIn K (.ref CP) "size" = some (some (.ref pSi))) (gSi' : PySem.W.specialIn K (.ref pSi) "__get__" = some (some (.builtin "property.__get__"))) (tSi : PySem.W.takesIn K (.ref pSi) = some true) (rSi : PySem.W.recIn K pSi "property" = some (.ref fSi :: restSi)) (lSi : K.lookup fSi = some ⟨ocSi, odSi, .func (PySem.W.fnOf "size" "Program.size" (defArgs sPSize) (defBody sPSize) (defScope sPSize) .none kVSi dcSi pmSi anSi cdSi ctSi), slSi⟩) (cSi : PySem.W.codeIn K cdSi "Program.size" = true) (kSi : PySem.W.keepIn K (.ref fSi) = true)
    {fOf : Addr} {odOf anOf : Option Addr} {slOf : Array (Option Value)} {ocOf kVOf dcOf pmOf cdOf ctOf : Value}
    {pOf : Addr} {restOf : List Value} (aOf : PySem.W.findCls K (.ref CP) (.type "type") "of" = some (.get (.builtin "classmethod.__get__") (.ref pOf) .none (.ref CP))) (rOf : PySem.W.recIn K pOf "classmethod" = some (.ref fOf :: restOf)) (iOf : PySem.W.fnIn K fOf = true) (lOf : K.lookup fOf = some ⟨ocOf, odOf, .func (PySem.W.fnOf "of" "Program.of" (defArgs sPOf) (defBody sPOf) (defScope sPOf) .none kVOf dcOf pmOf anOf cdOf ctOf), slOf⟩) (cOf : PySem.W.codeIn K cdOf "Program.of" = true) (kOf : PySem.W.keepIn K (.ref fOf) = true)
    (pgXT : PySem.W.plainGet K CT Str.empty = true) (hdXT : PySem.W.hasDictIn K CT = true) (poXT : PySem.W.plainOver K CT = true) (saXT : PySem.W.findIn K (.ref CT) "__setattr__" = some (some (.builtin "object.__setattr__"))) (mkXT : PySem.W.makesIn K CT = true) (kcXT : PySem.W.keepIn K (.ref CT) = true)
    (haXT : PySem.W.findIn K (.ref CT) "__class__" = some (some (.builtin "object.__class__"))) (hmXT : PySem.W.mroIn K CT (.type "object") = some true)
    (pgXP : PySem.W.plainGet K CP Str.empty = true) (hdXP : PySem.W.hasDictIn K CP = true) (poXP : PySem.W.plainOver K CP = true) (saXP : PySem.W.findIn K (.ref CP) "__setattr__" = some (some (.builtin "object.__setattr__"))) (mkXP : PySem.W.makesIn K CP = true) (kcXP : PySem.W.keepIn K (.ref CP) = true)
    (haXP : PySem.W.findIn K (.ref CP) "__class__" = some (some (.builtin "object.__class__"))) (hmXP : PySem.W.mroIn K CP (.type "object") = some true)
    (qHn : PySem.W.specialIn K (.builtin "object.__class__") "__get__" = some (some (.builtin "getset_descriptor.__get__"))) (qHt : PySem.W.takesIn K (.builtin "object.__class__") = some true)
    (nL : PySem.W.findIn K (.ref CP) "_letters" = some none)
    (nS : PySem.W.findIn K (.ref CP) "_steps" = some none)
    (nZ : PySem.W.findIn K (.ref CP) "_sizes" = some none)
    (qTi : PySem.W.findIn K (.ref CT) "__init__" = some (some (.builtin "object.__init__")))
    (qSf : PySem.W.selfFirst K CP = true)
    (qNf : PySem.W.notFirst K CP (.ref CP) = true)
    (qOb : PySem.W.subIn K (.ref CP) (.type "object") = some true)
    (qNe : PySem.W.findIn K (.ref CP) "__ne__" = some (some (.builtin "object.__ne__")))
    (qRd : PySem.W.readsIn K CP (.type "type") = true)
    (qGa : PySem.W.specialIn K (.ref CP) "__getattribute__" = some (some (.builtin "type.__getattribute__")))
    (qIx : PySem.W.fnIn K fIx = true)
    (x1 : PySem.W.notFirst K CP (.type "NoneType") = true)
    (y1 : PySem.W.kitOne K (.type "NoneType") (.ref CP) = some false)
    (x2 : PySem.W.notFirst K CP (.type "str") = true)
    (y2 : PySem.W.kitOne K (.type "str") (.ref CP) = some false)
    (x3 : PySem.W.notFirst K CP (.type "tuple") = true)
    (y3 : PySem.W.kitOne K (.type "tuple") (.ref CP) = some false)
    (z1 : PySem.W.nsIn K mainGlobals "isinstance" = some none)
    (z2 : PySem.W.nsIn K mainGlobals "int" = some none)
    (z3 : PySem.W.nsIn K mainGlobals "str" = some none)
    (z4 : PySem.W.nsIn K mainGlobals "bool" = some none)
    (z5 : PySem.W.nsIn K mainGlobals "abs" = some none)
    (z6 : PySem.W.nsIn K mainGlobals "len" = some none)
    (z7 : PySem.W.nsIn K mainGlobals "list" = some none)
    (z8 : PySem.W.nsIn K mainGlobals "set" = some none)
    (z9 : PySem.W.nsIn K mainGlobals "sorted" = some none)
    (z10 : PySem.W.nsIn K mainGlobals "repr" = some none)
    (z11 : PySem.W.nsIn K mainGlobals "range" = some none)
    (z12 : PySem.W.nsIn K mainGlobals "max" = some none)
    (z13 : PySem.W.nsIn K mainGlobals "min" = some none)
    (z14 : PySem.W.nsIn K mainGlobals "all" = some none)
    (z15 : PySem.W.nsIn K mainGlobals "tuple" = some none)
    (z16 : PySem.W.nsIn K mainGlobals "enumerate" = some none)
    {t1 : Tok} (v1 : PySem.W.nsIn K mainGlobals "ALPHABET" = some (some (.str alpha t1)))
    {t2 : Tok} (v2 : PySem.W.nsIn K mainGlobals "MAX_LETTERS" = some (some (.int 3 t2)))
    {t3 : Tok} (v3 : PySem.W.nsIn K mainGlobals "MAX_TEXT" = some (some (.int 4000 t3)))
    {t4 : Tok} (v4 : PySem.W.nsIn K mainGlobals "MAX_STEPS" = some (some (.int 40 t4))) :
    ∃ fd : FuncData, (∀ (s : Shared) (v : Value), BindsTo s fd ⟨[v], []⟩ [("_law_script", v)]) ∧ ∀ base : Heap, K.In base → base.Ns mainGlobals mg → Kept l.prog w K mg base CX0 12 fa fd ["_law_script"] (spLaw K) := by
  have e := hfa.symm.trans (PySem.W.mg_of X G a31)
  cases e
  obtain ⟨n1, t01, en1, hx1⟩ := hx1
  subst en1
  obtain ⟨n2, t02, en2, hx2⟩ := hx2
  subst en2
  obtain ⟨n3, t03, en3, hx3⟩ := hx3
  subst en3
  have T : Txt K mg := ⟨PySem.W.mg_none_of X G z1, PySem.W.mg_none_of X G z2, PySem.W.mg_none_of X G z3, PySem.W.mg_none_of X G z4, PySem.W.mg_none_of X G z5, PySem.W.mg_none_of X G z6, PySem.W.mg_none_of X G z7, PySem.W.mg_none_of X G z8, PySem.W.mg_none_of X G z9, PySem.W.mg_none_of X G z10, PySem.W.mg_none_of X G z11, PySem.W.mg_none_of X G z12, PySem.W.mg_none_of X G z13, PySem.W.mg_none_of X G z14, PySem.W.mg_none_of X G z15, PySem.W.mg_none_of X G z16, ⟨_, hx1⟩, ⟨_, PySem.W.mg_of X G v1⟩, ⟨_, PySem.W.mg_of X G v2⟩, ⟨_, PySem.W.mg_of X G v3⟩, ⟨_, hx2⟩, ⟨_, PySem.W.mg_of X G v4⟩, ⟨_, hx3⟩⟩
  have D1 : Df K mg "is_integer" sInt ["value"] f1 _ := df_mk X G a1 l1 c1 k1 fun _ _ _ _ _ _ us hl => match us, hl with | [_], _ => rfl
  have D2 : Df K mg "is_letters" sLetters ["value"] f2 _ := df_mk X G a2 l2 c2 k2 fun _ _ _ _ _ _ us hl => match us, hl with | [_], _ => rfl
  have D3 : Df K mg "is_text" sText ["letters", "value"] f3 _ := df_mk X G a3 l3 c3 k3 fun _ _ _ _ _ _ us hl => match us, hl with | [_, _], _ => rfl
  have D4 : Df K mg "check_letters" sCheck ["value"] f4 _ := df_mk X G a4 l4 c4 k4 fun _ _ _ _ _ _ us hl => match us, hl with | [_], _ => rfl
  have D5 : Df K mg "has_only" sHas ["value", "signs", "most"] f5 _ := df_mk X G a5 l5 c5 k5 fun _ _ _ _ _ _ us hl => match us, hl with | [_, _, _], _ => rfl
  have D6 : Df K mg "check_text" sCText ["letters", "value"] f6 _ := df_mk X G a6 l6 c6 k6 fun _ _ _ _ _ _ us hl => match us, hl with | [_, _], _ => rfl
  have D7 : Df K mg "check_between" sBetween ["value", "least", "most"] f7 _ := df_mk X G a7 l7 c7 k7 fun _ _ _ _ _ _ us hl => match us, hl with | [_, _, _], _ => rfl
  have D8 : Df K mg "check_most" sMost ["many", "limit"] f8 _ := df_mk X G a8 l8 c8 k8 fun _ _ _ _ _ _ us hl => match us, hl with | [_, _], _ => rfl
  have D9 : Df K mg "are_steps" sAreSteps ["letters", "value", "most"] f9 _ := df_mk X G a9 l9 c9 k9 fun _ _ _ _ _ _ us hl => match us, hl with | [_, _, _], _ => rfl
  have D10 : Df K mg "is_step" sIsStep ["letters", "value", "at"] f10 _ := df_mk X G a10 l10 c10 k10 fun _ _ _ _ _ _ us hl => match us, hl with | [_, _, _], _ => rfl
  have D11 : Df K mg "is_between" sIsBetween ["value", "most"] f11 _ := df_mk X G a11 l11 c11 k11 fun _ _ _ _ _ _ us hl => match us, hl with | [_, _], _ => rfl
  have D12 : Df K mg "step_sizes" sSizes ["steps", "limit"] f12 _ := df_mk X G a12 l12 c12 k12 fun _ _ _ _ _ _ us hl => match us, hl with | [_, _], _ => rfl
  have D13 : Df K mg "shifted_steps" sShifted ["steps", "many"] f13 _ := df_mk X G a13 l13 c13 k13 fun _ _ _ _ _ _ us hl => match us, hl with | [_, _], _ => rfl
  have D14 : Df K mg "steps_below" sBelow ["step"] f14 _ := df_mk X G a14 l14 c14 k14 fun _ _ _ _ _ _ us hl => match us, hl with | [_], _ => rfl
  have D15 : Df K mg "steps_to" sStepsTo ["steps"] f15 _ := df_mk X G a15 l15 c15 k15 fun _ _ _ _ _ _ us hl => match us, hl with | [_], _ => rfl
  have D16 : Df K mg "made_by" sMadeBy ["steps", "tool"] f16 _ := df_mk X G a16 l16 c16 k16 fun _ _ _ _ _ _ us hl => match us, hl with | [_, _], _ => rfl
  have D17 : Df K mg "letter_at" sLetterAt ["steps", "sizes", "index"] f17 _ := df_mk X G a17 l17 c17 k17 fun _ _ _ _ _ _ us hl => match us, hl with | [_, _, _], _ => rfl
  have D18 : Df K mg "_law_cup" sCup ["_law_script", "_law_at"] f18 _ := df_mk X G a18 l18 c18 k18 fun _ _ _ _ _ _ us hl => match us, hl with | [_, _], _ => rfl
  have D19 : Df K mg "_law_bit" sBit ["_law_cup_here", "_law_much"] f19 _ := df_mk X G a19 l19 c19 k19 fun _ _ _ _ _ _ us hl => match us, hl with | [_, _], _ => rfl
  have D20 : Df K mg "_law_pick" sPick ["_law_cup_here", "_law_items"] f20 _ := df_mk X G a20 l20 c20 k20 fun _ _ _ _ _ _ us hl => match us, hl with | [_, _], _ => rfl
  have D21 : Df K mg "_law_signs" sSigns ["_law_cup_here"] f21 _ := df_mk X G a21 l21 c21 k21 fun _ _ _ _ _ _ us hl => match us, hl with | [_], _ => rfl
  have D22 : Df K mg "_law_line" sLine ["_law_cup_here", "_law_signs_here", "_law_most"] f22 _ := df_mk X G a22 l22 c22 k22 fun _ _ _ _ _ _ us hl => match us, hl with | [_, _, _], _ => rfl
  have D23 : Df K mg "_law_small_steps" sSmall ["_law_cup_here", "_law_signs_here", "_law_many"] f23 _ := df_mk X G a23 l23 c23 k23 fun _ _ _ _ _ _ us hl => match us, hl with | [_, _, _], _ => rfl
  have D24 : Df K mg "_law_lines_of" sLinesOf ["_law_steps"] f24 _ := df_mk X G a24 l24 c24 k24 fun _ _ _ _ _ _ us hl => match us, hl with | [_], _ => rfl
  have D25 : Df K mg "_law_great_steps" sGreat ["_law_cup_here", "_law_signs_here", "_law_many"] f25 _ := df_mk X G a25 l25 c25 k25 fun _ _ _ _ _ _ us hl => match us, hl with | [_, _, _], _ => rfl
  have D26 : Df K mg "_law_sizes_of" sSizesOf ["_law_steps"] f26 _ := df_mk X G a26 l26 c26 k26 fun _ _ _ _ _ _ us hl => match us, hl with | [_], _ => rfl
  have D27 : Df K mg "_law_letter_at" sLawLetter ["_law_steps", "_law_many", "_law_place", "_law_spot"] f27 _ := df_mk X G a27 l27 c27 k27 fun _ _ _ _ _ _ us hl => match us, hl with | [_, _, _, _], _ => rfl
  have D28 : Df K mg "_law_moved" sMoved ["_law_steps", "_law_much"] f28 _ := df_mk X G a28 l28 c28 k28 fun _ _ _ _ _ _ us hl => match us, hl with | [_, _], _ => rfl
  have D29 : Df K mg "_law_short_right" sShort ["_law_cup_here", "_law_signs_here"] f29 _ := df_mk X G a29 l29 c29 k29 fun _ _ _ _ _ _ us hl => match us, hl with | [_, _], _ => rfl
  have D30 : Df K mg "_law_far_right" sFar ["_law_cup_here", "_law_signs_here"] f30 _ := df_mk X G a30 l30 c30 k30 fun _ _ _ _ _ _ us hl => match us, hl with | [_, _], _ => rfl
  have D31 : Df K mg "law" sLaw ["_law_script"] fa _ := df_mk X G a31 l31 c31 k31 fun _ _ _ _ _ _ us hl => match us, hl with | [_], _ => rfl
  have FT1 := fun_mk (st := sWritten) lT1 cT1 kT1
  have bT1 := FT1.binds (ps := ["self", "text"]) fun _ _ _ _ _ _ us hl => match us, hl with | [_, _], _ => rfl
  have FT2 := fun_mk (st := sJoined) lT2 cT2 kT2
  have bT2 := FT2.binds (ps := ["self", "one", "other"]) fun _ _ _ _ _ _ us hl => match us, hl with | [_, _, _], _ => rfl
  have FT3 := fun_mk (st := sRepeated) lT3 cT3 kT3
  have bT3 := FT3.binds (ps := ["self", "one", "number"]) fun _ _ _ _ _ _ us hl => match us, hl with | [_, _, _], _ => rfl
  have FIn := fun_mk (st := sPInit) lIn cIn kIn
  have bIn := FIn.binds (ps := ["self", "letters", "steps"]) fun _ _ _ _ _ _ us hl => match us, hl with | [_, _, _], _ => rfl
  have FPw := fun_mk (st := sPPower) lPw cPw kPw
  have bPw := FPw.binds (ps := ["self", "number"]) fun _ _ _ _ _ _ us hl => match us, hl with | [_, _], _ => rfl
  have FTx := fun_mk (st := sPText) lTx cTx kTx
  have bTx := FTx.binds (ps := ["self"]) fun _ _ _ _ _ _ us hl => match us, hl with | [_], _ => rfl
  have FIx := fun_mk (st := sPIx) lIx cIx kIx
  have bIx := FIx.binds (ps := ["self", "at"]) fun _ _ _ _ _ _ us hl => match us, hl with | [_, _], _ => rfl
  have FLn := fun_mk (st := sPLen) lLn cLn kLn
  have bLn := FLn.binds (ps := ["self"]) fun _ _ _ _ _ _ us hl => match us, hl with | [_], _ => rfl
  have FEq := fun_mk (st := sPEq) lEq cEq kEq
  have bEq := FEq.binds (ps := ["self", "other"]) fun _ _ _ _ _ _ us hl => match us, hl with | [_, _], _ => rfl
  have FSr := fun_mk (st := sPStr) lSr cSr kSr
  have bSr := FSr.binds (ps := ["self"]) fun _ _ _ _ _ _ us hl => match us, hl with | [_], _ => rfl
  have FAd := fun_mk (st := sPAdd) lAd cAd kAd
  have bAd := FAd.binds (ps := ["self", "other"]) fun _ _ _ _ _ _ us hl => match us, hl with | [_, _], _ => rfl
  have FWi := fun_mk (st := sPWith) lWi cWi kWi
  have bWi := FWi.binds (ps := ["self", "steps"]) fun _ _ _ _ _ _ us hl => match us, hl with | [_, _], _ => rfl
  have FLe := fun_mk (st := sPLet) lLe cLe kLe
  have bLe := FLe.binds (ps := ["self"]) fun _ _ _ _ _ _ us hl => match us, hl with | [_], _ => rfl
  have FSt := fun_mk (st := sPSteps) lSt cSt kSt
  have bSt := FSt.binds (ps := ["self"]) fun _ _ _ _ _ _ us hl => match us, hl with | [_], _ => rfl
  have FSi := fun_mk (st := sPSize) lSi cSi kSi
  have bSi := FSi.binds (ps := ["self"]) fun _ _ _ _ _ _ us hl => match us, hl with | [_], _ => rfl
  have FOf := fun_mk (st := sPOf) lOf cOf kOf
  have bOf := FOf.binds (ps := ["cls", "letters", "text"]) fun _ _ _ _ _ _ us hl => match us, hl with | [_, _, _], _ => rfl
  have clXT : Cls K CT := ⟨pgXT, hdXT, poXT, saXT⟩
  have clXP : Cls K CP := ⟨pgXP, hdXP, poXP, saXP⟩
  have W : WP K mg CP := ⟨PySem.W.mg_of X G aXP, clXP, nL, nS, nZ, fun H a dx fs e => .base (.ins e clXP haXP qHn qHt hmXP), kit_self⟩
  refine ⟨PySem.W.fnOf "law" "law" (defArgs sLaw) (defBody sLaw) (defScope sLaw) .none kV31 dc31 pm31 an31 cd31 ct31, fun s v => .of_eq rfl, fun base _ _ => ?_⟩
  have LO : Low K mg _ _ _ _ _ _ _ _ _ _ := ⟨D1, D5, D2, D4, D3⟩
  have Y : ToolT K mg CT _ _ _ _ _ _ := ⟨clXT, ⟨mkXT, qTi, hmXT, kcXT⟩, PySem.W.mg_of X G aXT, FT1, bT1, ⟨aT1, iT1, kT1⟩, FT2, bT2, ⟨aT2, iT2, kT2⟩, FT3, bT3, ⟨aT3, iT3, kT3⟩⟩
  have gIn : FnOk l.prog w K mg base CX0 7 fIn _ ["self", "letters", "steps"] (spPInit CP) := ok_pinit FIn T W LO D11 D10 D9 D12
  have M : MkP l.prog w K mg base CP fIn _ := ⟨W, ⟨mkXP, aIn, iIn, kcXP⟩, gIn, bIn⟩
  have gWi : FnOk l.prog w K mg base CX0 9 fWi _ ["self", "steps"] (spWith CP) := ok_with FWi T M D8
  have mWi : Meth K CP "_with" fWi := ⟨aWi, iWi, kWi⟩
  have gOf : FnOk l.prog w K mg base CX0 9 fOf _ ["cls", "letters", "text"] (spPOf CP) := ok_pof FOf T M LO D6
  have C : Cl l.prog w K mg base CP :=
    { W := W, fI := fIn, fLe := fLe, fSt := fSt, fSi := fSi, fTx := fTx, fLn := fLn, fEq := fEq, fSr := fSr, fIx := fIx, fAd := fAd, fPw := fPw, pL := pLe, pS := pSt, pZ := pSi, pO := pOf, gO := fOf
      dI := _, dLe := _, dSt := _, dSi := _, dTx := _, dLn := _, dEq := _, dSr := _, dIx := _, dAd := _, dPw := _, mc := .type "type", MK := M
      gLe := ok_plet FLe W, gSt := ok_psteps FSt W, gSi := ok_psize FSi W, gTx := ok_ptext FTx T W Y D8 D16 D15 D14, gLn := ok_plen FLn T W, gEq := ok_peq FEq T W, gEqX := ok_peqX FEq T W, gSr := ok_pstr FSr T W
      gIx := ok_pix FIx T W D1 D11 D17, gAd := ok_padd FAd T W D13 gWi bWi mWi, gPw := ok_ppower FPw T W D1 D7 gWi bWi mWi
      bLe := bLe, bSt := bSt, bSi := bSi, bTx := bTx, bLn := bLn, bEq := bEq, bSr := bSr, bIx := bIx, bAd := bAd, bPw := bPw, sf := qSf, nf := qNf, ob := qOb, sEq := aEq, sNe := qNe, sLn := aLn, sIx := aIx, sSr := aSr, sAd := aAd
      fnEq := iEq, fnLn := iLn, fnIx := iIx, fIxI := qIx, fnSr := iSr, fnAd := iAd, mTx := ⟨aTx, iTx, kTx⟩, mPw := ⟨aPw, iPw, kPw⟩, pLe := ⟨aLe, gLe', tLe, restLe, rLe⟩, pSt := ⟨aSt, gSt', tSt, restSt, rSt⟩, pSi := ⟨aSi, gSi', tSi, restSi, rSi⟩
      rd := ⟨qRd, qGa⟩, cm := ⟨aOf, ⟨restOf, rOf⟩, iOf⟩, gOf := (gOf.raw bOf .nil).imp fun vs H Q E h => by rw [List.append_nil]; exact h }
  have U : Up l.prog w K mg base _ _ _ _ _ _ _ _ _ _ _ _ _ _ _ _ := ⟨D19, D20, D23, D25, D24, D26, D27, D28,
    ok_bit D19.F T, ok_pick D20.F T D19, ok_small D23.F T D19 D20 D22, ok_great D25.F T D19 D20 D22, ok_linesof D24.F T, ok_sizesof D26.F T, ok_ll D27.F T, ok_moved D28.F T⟩
  exact ok_law D31.F T C D18 D21 D29 D30 (ok_cup D18.F T) (ok_signs D21.F T D19 D20) (ok_short D29.F T C U ⟨x1, y1⟩ ⟨x2, y2⟩ ⟨x3, y3⟩) (ok_far D30.F T C U)
theorem fin {l : PySem.W.OpenLaw} {q : Program} {loose : List Str} {XP : (Str → Option Value) → Heap → Prop} {YP : World → Heap → Prop} {d : DefRec} {K : Params → PySem.W.Frag} (hn : l.most = some 63) (hdf : d.params.defaults = [])
    (hY : ∀ (w : World) (h : Heap), YP w h → (K w.params).In h)
    (F : ∀ (w : World) (mg : Str → Option Value) (fa : Addr) (h : Heap), (K w.params).In h → h.Ns mainGlobals mg → mg d.name = some (.ref fa) → XP mg h →
      ∃ fd : FuncData, (∀ (s : Shared) (u : Value), BindsTo s fd ⟨[u], []⟩ [("_law_script", u)]) ∧ ∀ base : Heap, (K w.params).In base → base.Ns mainGlobals mg → Kept l.prog w (K w.params) mg base CX0 12 fa fd ["_law_script"] (spLaw (K w.params))) :
    PySem.W.WalkO q loose XP YP l.row.toRowW d [] (fun f vs => PySem.call f vs) :=
  Tg.walk (n := 63) (k := 12) (x := "_law_script") (cx := fun _ => CX0) (sp := fun w => spLaw (K w.params)) hn (by decide) hdf ⟨rfl, by decide, by decide⟩ hY F (fun _ _ a ns hl _ hS => ⟨a, ns, rfl, hS, hl, fun _ => rfl⟩) fun _ _ _ _ _ z => z
end K58

set_option Elab.async false
set_option maxRecDepth 100000
open PySem PySem.W PyProof.Rows
set_option maxRecDepth 100000 in
set_option maxHeartbeats 0 in
theorem PySem.Challenge.cw_whatcounts_k58_whole_programs_told_holds : PySem.Challenge.rw_whatcounts_k58_whole_programs_told.Holds := by
  w_on; o_law; k_head; (case hw => w_witness2)
  k_fill
  refine K58.fin (l := PySem.Challenge.rw_whatcounts_k58_whole_programs_told) rfl rfl (fun w h Y => PySem.W.kIn_of Y) ?F
  case F =>
    intro w mg fa h KX G hmg hx
    have hx1 : ∃ n t, n = 10 ^ 200 ∧ mg "LEAST_TOO_LONG" = some (.int n t) := by
      first
      | (obtain ⟨v, e, r⟩ := hx.2.val _ (List.Mem.head _); cases r; exact ⟨_, _, by decide +kernel, e⟩)
      | (obtain ⟨v, e, r⟩ := hx.2.val _ (List.Mem.tail _ (List.Mem.head _)); cases r; exact ⟨_, _, by decide +kernel, e⟩)
      | (obtain ⟨v, e, r⟩ := hx.2.val _ (List.Mem.tail _ (List.Mem.tail _ (List.Mem.head _))); cases r; exact ⟨_, _, by decide +kernel, e⟩)
    have hx2 : ∃ n t, n = 10 ^ 100 ∧ mg "MAX_NUMBER" = some (.int n t) := by
      first
      | (obtain ⟨v, e, r⟩ := hx.2.val _ (List.Mem.head _); cases r; exact ⟨_, _, by decide +kernel, e⟩)
      | (obtain ⟨v, e, r⟩ := hx.2.val _ (List.Mem.tail _ (List.Mem.head _)); cases r; exact ⟨_, _, by decide +kernel, e⟩)
      | (obtain ⟨v, e, r⟩ := hx.2.val _ (List.Mem.tail _ (List.Mem.tail _ (List.Mem.head _))); cases r; exact ⟨_, _, by decide +kernel, e⟩)
    have hx3 : ∃ n t, n = 10 ^ 400 ∧ mg "MAX_SIZE" = some (.int n t) := by
      first
      | (obtain ⟨v, e, r⟩ := hx.2.val _ (List.Mem.head _); cases r; exact ⟨_, _, by decide +kernel, e⟩)
      | (obtain ⟨v, e, r⟩ := hx.2.val _ (List.Mem.tail _ (List.Mem.head _)); cases r; exact ⟨_, _, by decide +kernel, e⟩)
      | (obtain ⟨v, e, r⟩ := hx.2.val _ (List.Mem.tail _ (List.Mem.tail _ (List.Mem.head _))); cases r; exact ⟨_, _, by decide +kernel, e⟩)
    refine' K58.all_mk KX G hmg hx1 hx2 hx3 ?a1 ?l1 ?c1 ?k1 ?a2 ?l2 ?c2 ?k2 ?a3 ?l3 ?c3 ?k3 ?a4 ?l4 ?c4 ?k4 ?a5 ?l5 ?c5 ?k5 ?a6 ?l6 ?c6 ?k6 ?a7 ?l7 ?c7 ?k7 ?a8 ?l8 ?c8 ?k8 ?a9 ?l9 ?c9 ?k9 ?a10 ?l10 ?c10 ?k10 ?a11 ?l11 ?c11 ?k11 ?a12 ?l12 ?c12 ?k12 ?a13 ?l13 ?c13 ?k13 ?a14 ?l14 ?c14 ?k14 ?a15 ?l15 ?c15 ?k15 ?a16 ?l16 ?c16 ?k16 ?a17 ?l17 ?c17 ?k17 ?a18 ?l18 ?c18 ?k18 ?a19 ?l19 ?c19 ?k19 ?a20 ?l20 ?c20 ?k20 ?a21 ?l21 ?c21 ?k21 ?a22 ?l22 ?c22 ?k22 ?a23 ?l23 ?c23 ?k23 ?a24 ?l24 ?c24 ?k24 ?a25 ?l25 ?c25 ?k25 ?a26 ?l26 ?c26 ?k26 ?a27 ?l27 ?c27 ?k27 ?a28 ?l28 ?c28 ?k28 ?a29 ?l29 ?c29 ?k29 ?a30 ?l30 ?c30 ?k30 ?a31 ?l31 ?c31 ?k31 ?aXT ?aXP ?aT1 ?iT1 ?lT1 ?cT1 ?kT1 ?aT2 ?iT2 ?lT2 ?cT2 ?kT2 ?aT3 ?iT3 ?lT3 ?cT3 ?kT3 ?aIn ?iIn ?lIn ?cIn ?kIn ?aPw ?iPw ?lPw ?cPw ?kPw ?aTx ?iTx ?lTx ?cTx ?kTx ?aIx ?iIx ?lIx ?cIx ?kIx ?aLn ?iLn ?lLn ?cLn ?kLn ?aEq ?iEq ?lEq ?cEq ?kEq ?aSr ?iSr ?lSr ?cSr ?kSr ?aAd ?iAd ?lAd ?cAd ?kAd ?aWi ?iWi ?lWi ?cWi ?kWi ?aLe ?gLe' ?tLe ?rLe ?lLe ?cLe ?kLe ?aSt ?gSt' ?tSt ?rSt ?lSt ?cSt ?kSt ?aSi ?gSi' ?tSi ?rSi ?lSi ?cSi ?kSi ?aOf ?rOf ?iOf ?lOf ?cOf ?kOf ?pgXT ?hdXT ?poXT ?saXT ?mkXT ?kcXT ?haXT ?hmXT ?pgXP ?hdXP ?poXP ?saXP ?mkXP ?kcXP ?haXP ?hmXP ?qHn ?qHt ?nL ?nS ?nZ ?qTi ?qSf ?qNf ?qOb ?qNe ?qRd ?qGa ?qIx ?x1 ?y1 ?x2 ?y2 ?x3 ?y3 ?z1 ?z2 ?z3 ?z4 ?z5 ?z6 ?z7 ?z8 ?z9 ?z10 ?z11 ?z12 ?z13 ?z14 ?z15 ?z16 ?v1 ?v2 ?v3 ?v4
    (case a1 => k_is)
    (case l1 => k_is)
    (case c1 => k_is)
    (case k1 => k_is)
    (case a2 => k_is)
    (case l2 => k_is)
    (case c2 => k_is)
    (case k2 => k_is)
    (case a3 => k_is)
    (case l3 => k_is)
    (case c3 => k_is)
    (case k3 => k_is)
    (case a4 => k_is)
    (case l4 => k_is)
    (case c4 => k_is)
    (case k4 => k_is)
    (case a5 => k_is)
    (case l5 => k_is)
    (case c5 => k_is)
    (case k5 => k_is)
    (case a6 => k_is)
    (case l6 => k_is)
    (case c6 => k_is)
    (case k6 => k_is)
    (case a7 => k_is)
    (case l7 => k_is)
    (case c7 => k_is)
    (case k7 => k_is)
    (case a8 => k_is)
    (case l8 => k_is)
    (case c8 => k_is)
    (case k8 => k_is)
    (case a9 => k_is)
    (case l9 => k_is)
    (case c9 => k_is)
    (case k9 => k_is)
    (case a10 => k_is)
    (case l10 => k_is)
    (case c10 => k_is)
    (case k10 => k_is)
    (case a11 => k_is)
    (case l11 => k_is)
    (case c11 => k_is)
    (case k11 => k_is)
    (case a12 => k_is)
    (case l12 => k_is)
    (case c12 => k_is)
    (case k12 => k_is)
    (case a13 => k_is)
    (case l13 => k_is)
    (case c13 => k_is)
    (case k13 => k_is)
    (case a14 => k_is)
    (case l14 => k_is)
    (case c14 => k_is)
    (case k14 => k_is)
    (case a15 => k_is)
    (case l15 => k_is)
    (case c15 => k_is)
    (case k15 => k_is)
    (case a16 => k_is)
    (case l16 => k_is)
    (case c16 => k_is)
    (case k16 => k_is)
    (case a17 => k_is)
    (case l17 => k_is)
    (case c17 => k_is)
    (case k17 => k_is)
    (case a18 => k_is)
    (case l18 => k_is)
    (case c18 => k_is)
    (case k18 => k_is)
    (case a19 => k_is)
    (case l19 => k_is)
    (case c19 => k_is)
    (case k19 => k_is)
    (case a20 => k_is)
    (case l20 => k_is)
    (case c20 => k_is)
    (case k20 => k_is)
    (case a21 => k_is)
    (case l21 => k_is)
    (case c21 => k_is)
    (case k21 => k_is)
    (case a22 => k_is)
    (case l22 => k_is)
    (case c22 => k_is)
    (case k22 => k_is)
    (case a23 => k_is)
    (case l23 => k_is)
    (case c23 => k_is)
    (case k23 => k_is)
    (case a24 => k_is)
    (case l24 => k_is)
    (case c24 => k_is)
    (case k24 => k_is)
    (case a25 => k_is)
    (case l25 => k_is)
    (case c25 => k_is)
    (case k25 => k_is)
    (case a26 => k_is)
    (case l26 => k_is)
    (case c26 => k_is)
    (case k26 => k_is)
    (case a27 => k_is)
    (case l27 => k_is)
    (case c27 => k_is)
    (case k27 => k_is)
    (case a28 => k_is)
    (case l28 => k_is)
    (case c28 => k_is)
    (case k28 => k_is)
    (case a29 => k_is)
    (case l29 => k_is)
    (case c29 => k_is)
    (case k29 => k_is)
    (case a30 => k_is)
    (case l30 => k_is)
    (case c30 => k_is)
    (case k30 => k_is)
    (case a31 => k_is)
    (case l31 => k_is)
    (case c31 => k_is)
    (case k31 => k_is)
    (case aXT => k_is)
    (case aXP => k_is)
    (case aT1 => k_is)
    (case iT1 => k_is)
    (case lT1 => k_is)
    (case cT1 => k_is)
    (case kT1 => k_is)
    (case aT2 => k_is)
    (case iT2 => k_is)
    (case lT2 => k_is)
    (case cT2 => k_is)
    (case kT2 => k_is)
    (case aT3 => k_is)
    (case iT3 => k_is)
    (case lT3 => k_is)
    (case cT3 => k_is)
    (case kT3 => k_is)
    (case aIn => k_is)
    (case iIn => k_is)
    (case lIn => k_is)
    (case cIn => k_is)
    (case kIn => k_is)
    (case aPw => k_is)
    (case iPw => k_is)
    (case lPw => k_is)
    (case cPw => k_is)
    (case kPw => k_is)
    (case aTx => k_is)
    (case iTx => k_is)
    (case lTx => k_is)
    (case cTx => k_is)
    (case kTx => k_is)
    (case aIx => k_is)
    (case iIx => k_is)
    (case lIx => k_is)
    (case cIx => k_is)
    (case kIx => k_is)
    (case aLn => k_is)
    (case iLn => k_is)
    (case lLn => k_is)
    (case cLn => k_is)
    (case kLn => k_is)
    (case aEq => k_is)
    (case iEq => k_is)
    (case lEq => k_is)
    (case cEq => k_is)
    (case kEq => k_is)
    (case aSr => k_is)
    (case iSr => k_is)
    (case lSr => k_is)
    (case cSr => k_is)
    (case kSr => k_is)
    (case aAd => k_is)
    (case iAd => k_is)
    (case lAd => k_is)
    (case cAd => k_is)
    (case kAd => k_is)
    (case aWi => k_is)
    (case iWi => k_is)
    (case lWi => k_is)
    (case cWi => k_is)
    (case kWi => k_is)
    (case aLe => k_is)
    (case gLe' => k_is)
    (case tLe => k_is)
    (case rLe => k_is)
    (case lLe => k_is)
    (case cLe => k_is)
    (case kLe => k_is)
    (case aSt => k_is)
    (case gSt' => k_is)
    (case tSt => k_is)
    (case rSt => k_is)
    (case lSt => k_is)
    (case cSt => k_is)
    (case kSt => k_is)
    (case aSi => k_is)
    (case gSi' => k_is)
    (case tSi => k_is)
    (case rSi => k_is)
    (case lSi => k_is)
    (case cSi => k_is)
    (case kSi => k_is)
    (case aOf => k_is)
    (case rOf => k_is)
    (case iOf => k_is)
    (case lOf => k_is)
    (case cOf => k_is)
    (case kOf => k_is)
    (case pgXT => k_is)
    (case hdXT => k_is)
    (case poXT => k_is)
    (case saXT => k_is)
    (case mkXT => k_is)
    (case kcXT => k_is)
    (case haXT => k_is)
    (case hmXT => k_is)
    (case pgXP => k_is)
    (case hdXP => k_is)
    (case poXP => k_is)
    (case saXP => k_is)
    (case mkXP => k_is)
    (case kcXP => k_is)
    (case haXP => k_is)
    (case hmXP => k_is)
    (case qHn => k_is)
    (case qHt => k_is)
    (case nL => k_is)
    (case nS => k_is)
    (case nZ => k_is)
    (case qTi => k_is)
    (case qSf => first | rfl | k_is)
    (case qNf => first | rfl | k_is)
    (case qOb => k_is)
    (case qNe => k_is)
    (case qRd => k_is)
    (case qGa => k_is)
    (case qIx => first | rfl | k_is)
    (case x1 => first | rfl | k_is)
    (case y1 => first | k_is | kit_is)
    (case x2 => first | rfl | k_is)
    (case y2 => first | k_is | kit_is)
    (case x3 => first | rfl | k_is)
    (case y3 => first | k_is | kit_is)
    (case z1 => k_is)
    (case z2 => k_is)
    (case z3 => k_is)
    (case z4 => k_is)
    (case z5 => k_is)
    (case z6 => k_is)
    (case z7 => k_is)
    (case z8 => k_is)
    (case z9 => k_is)
    (case z10 => k_is)
    (case z11 => k_is)
    (case z12 => k_is)
    (case z13 => k_is)
    (case z14 => k_is)
    (case z15 => k_is)
    (case z16 => k_is)
    (case v1 => k_is)
    (case v2 => k_is)
    (case v3 => k_is)
    (case v4 => k_is)

