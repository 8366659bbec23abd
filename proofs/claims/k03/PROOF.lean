import PyProof.Rows.All
import Wide.All
import OpenK.AllK
import Wide.FinOn
import HandS.ForMost
import HandS.IsInst
import HandS.Wide
import HandS.Strs
import HandS.SetTxt0
import HandS.Set
import HandS.SetTxtIn
import HandS.Exc
import HandS.TryOnly
import HandS.ExcOwn
import HandS.WordsExc
import PyProof.ReprReads
import PyProof.Rows.StrCut
import HandS.StrMore
import KE.KOpsOwn
import PyProof.InstNe
import KE.SortLaws
import HandS.TupAny
import HandS.Style
import KE.KRevSl
import KE.KCallOwn
import KE.KOwnIter
import HandS.IterNext
import PyProof.WalksMore
import HandS.IterVal
import HandS.Text
import HandS.Iter
import HandS.ClsMeth
import HandS.Property
import HandS.FStr
import PyProof.Rows.StrRev
import PySem.Challenge.RW_whatcounts_k03_whole_words_told_and_canc
set_option Elab.async false
set_option linter.all false
set_option maxRecDepth 100000
set_option maxHeartbeats 3200000
/-! sets of texts: made of a text, sorted -/
namespace Tx
open PySem PySem.Spec PyProof.Rows L2

/-- the text that an entry holds -/
def tx (e : Int × Value) : Str := match e.2 with
  | .str y _ => y
  | _ => Str.empty
/-- an entry of a set of texts -/
def Ent (w : World) (e : Int × Value) : Prop := ∃ y u, e.2 = Value.str y u ∧ e.1 = hashStr w y

/-- at a stands a set whose members are the texts ys, in some order -/
def At (w : World) (h : Heap) (a : Addr) (ys : List Str) : Prop :=
  ∃ (o : Obj) (es : Array (Int × Value)) (ep : Nat) (t : SetTable), h.get? a = some o ∧ o.ExactSet ∧ o.data = .set es ep t ∧
    (∀ e ∈ es.toList, Ent w e) ∧ (es.toList.map tx).Perm ys ∧ es.size < scanBound ∧ t.fits es.size = true ∧
    Ris t.place.toList ∧ (w.params.followText "set-order" = true ∨ t.led = true)

section
variable {P : Program} {w : World} {h h' : Heap} {a : Addr} {ys : List Str}
theorem At.stays (R : At w h a ys) (k : ∀ o, h.get? a = some o → h'.get? a = some o) : At w h' a ys :=
  let ⟨o, es, ep, t, ho, r⟩ := R
  ⟨o, es, ep, t, k o ho, r⟩
theorem Ent.elems {l : List (Int × Value)} (g : ∀ e ∈ l, Ent w e) : ElemsOf (strKind P w) l := by
  intro e he
  obtain ⟨y, u, q1, q2⟩ := g e he
  refine ⟨⟨y, ?_, q2⟩, ?_⟩
  · rw [q1]
    exact Froz.is_str y u
  · rw [q1]
    rfl
theorem Ent.is {e : Int × Value} (g : Ent w e) (k : Str) : (strKind P w).is k e.2 = true ↔ tx e = k := by
  obtain ⟨y, u, q1, _⟩ := g
  unfold tx
  rw [q1]
  constructor
  · intro q
    exact ((strKind P w).inj (.str y u) k y q (Froz.is_str y u)).symm
  · intro q
    subst q
    exact Froz.is_str _ u
theorem Ent.mem {l : List (Int × Value)} (g : ∀ e ∈ l, Ent w e) (k : Str) : k ∈ l.map tx ↔ ∃ e ∈ l, (strKind P w).is k e.2 = true := by
  rw [List.mem_map]
  exact ⟨fun ⟨e, he, q⟩ => ⟨e, he, ((g e he).is k).mpr q⟩, fun ⟨e, he, q⟩ => ⟨e, he, ((g e he).is k).mp q⟩⟩
end

section
variable {P : Program} {w : World} {A : Around} {E : Value → Shared → Prop} {s : Shared} {a : Addr} {ys : List Str}
theorem add_tail {g : Bool → Sem Unit} (hg : ∀ (b : Bool) (z : Shared) (R : Unit → Shared → Prop), R () z → wpAny (model P w) A (g b) R E z)
    {o : Obj} {es : Array (Int × Value)} {ep : Nat} {t : SetTable} (ho : s.heap.get? a = some o) (hx : o.ExactSet) (hd : o.data = .set es ep t)
    {es1 : Array (Int × Value)} {t2 : SetTable} (g1 : ∀ e ∈ es1.toList, Ent w e) (m1 : (es1.toList.map tx).Perm ys)
    (hb1 : es1.size < scanBound) (hf2 : t2.fits es1.size = true) (hr : Ris t2.place.toList) (hl : w.params.followText "set-order" = true ∨ t2.led = true)
    {was : Bool} {R : Option Bool → Shared → Prop}
    (hR : ∀ h', Heap.SameBut a s.heap h' → At w h' a ys → R (some true) { s with heap := h' }) :
    wpAny (model P w) A (do
        storeSet a es1 t2
        if (!was && t2.tooFull) = true then do
            g (relayAll t2 es1 (SetTable.grown es1.size)).2.2
            storeSet a (relayAll t2 es1 (SetTable.grown es1.size)).1 (relayAll t2 es1 (SetTable.grown es1.size)).2.1
            pure (some true)
          else pure (some true)) R E s := by
  refine wpAny_bind (wpAny_storeSet_of ho hd ?_ (fits_of_scanBound hb1))
  have q1 := store_at (es' := es1) (t' := t2) ho hd
  have sb := Heap.SameBut.update s.heap a (Obj.putSet es1 t2)
  split
  · have p3 := relayAll_perm t2 es1 (SetTable.grown es1.size)
    have f3 := relayAll_fits t2 es1 (SetTable.grown es1.size)
    have r3 := relayAll_ris t2 es1 (SetTable.grown es1.size)
    have l3 := relayAll_led t2 es1 (SetTable.grown es1.size)
    generalize relayAll t2 es1 (SetTable.grown es1.size) = Z at p3 f3 r3 l3 ⊢
    obtain ⟨es2, t3, gave⟩ := Z
    dsimp only at p3 f3 r3 l3 ⊢
    have z2 : es2.size = es1.size := by
      have := p3.length_eq
      rw [Array.length_toList, Array.length_toList] at this
      exact this
    refine wpAny_bind (hg _ _ _ ?_)
    refine wpAny_bind (wpAny_storeSet_of q1 rfl ?_ (fits_of_scanBound (by rw [z2]; exact hb1)))
    have q2 := store_at (es' := es2) (t' := t3) q1 rfl
    refine wpAny_pure (hR _ (sb.trans (Heap.SameBut.update _ a _)) ?_)
    exact ⟨_, es2, _, t3, q2, hx, rfl, fun e he => g1 e (p3.mem_iff.mp he), (p3.map tx).trans m1, by rw [z2]; exact hb1, f3, r3, hl.imp id fun z => l3.trans z⟩
  · exact wpAny_pure (hR _ sb ⟨_, es1, _, t2, q1, hx, rfl, g1, m1, hb1, hf2, hr, hl⟩)

theorem add_hashed {k : Str} {u : Tok} {Q : Bool → Shared → Prop} (R : At w s.heap a ys) (room : ys.length + 1 < scanBound)
    (hQ : ∀ h', Heap.SameBut a s.heap h' → At w h' a (if k ∈ ys then ys else k :: ys) → Q (!decide (k ∈ ys)) { s with heap := h' }) :
    wpAny (model P w) A (setAddHashed a (.str k u) (hashStr w k)) Q E s := by
  obtain ⟨o, es, ep, t, ho, hx, hd, g, pm, hb, hf, hr, hl⟩ := R
  have hkey : (strKind P w).is k (.str k u) = true := Froz.is_str k u
  have hel : ElemsOf (strKind P w) es.toList := Ent.elems g
  have hz : es.size = ys.length := by
    have := pm.length_eq
    rw [List.length_map, Array.length_toList] at this
    exact this
  unfold setAddHashed setAddHashedIn
  refine wpAny_holding (wpAny_bind (wpAny_setState_of ho hd hf ?_))
  dsimp only
  rw [byScan_of (x := Value.str k u) rfl hb hel]
  simp only [↓reduceIte]
  unfold setAddByScan
  refine wpAny_bind ?_
  refine wpAny_bind (wpAny_rule ?_)
  refine wpAny_bind (wpAny_setScan_of (knd := strKind P w) (k := k) hkey ho hd hf hel ?_)
  cases hfi : List.findIdx? (fun e => (strKind P w).is k e.2) es.toList with
  | some j =>
    dsimp only
    obtain ⟨hj, pj, _⟩ := List.findIdx?_eq_some_iff_getElem.mp hfi
    have hk : k ∈ ys := pm.mem_iff.mp ((Ent.mem (P := P) g k).mpr ⟨es.toList[j], List.getElem_mem hj, pj⟩)
    refine wpAny_pure (wpAny_pure ?_)
    have q := hQ s.heap (Heap.SameBut.refl a s.heap) (by rw [if_pos hk]; exact ⟨o, es, ep, t, ho, hx, hd, g, pm, hb, hf, hr, hl⟩)
    rw [decide_eq_true hk] at q
    exact q
  | none =>
    dsimp only
    have hk : k ∉ ys := fun z => by
      obtain ⟨e, he, q⟩ := (Ent.mem (P := P) g k).mp (pm.mem_iff.mpr z)
      have c := List.findIdx?_eq_none_iff.mp hfi e he
      rw [q] at c
      cases c
    have hgw : ∀ (b : Bool) {z : Shared} {R : Unit → Shared → Prop}, R () z → wpAny (model P w) A (match b with | true => rule "set.scan.the-table-gave-way" | false => pure ()) R E z := by
      intro b z R q
      cases b
      · exact wpAny_pure q
      · exact wpAny_rule q
    have p1 := layNew_perm t es (hashStr w k) (.str k u)
    have f1 := layNew_fits t es (hashStr w k) (.str k u)
    have r1 := layNew_ris t es (hashStr w k) (.str k u) hr
    have l1 := layNew_led t es (hashStr w k) (.str k u)
    generalize layNew t es (hashStr w k) (.str k u) = Z at p1 f1 r1 l1 ⊢
    obtain ⟨es1, t1, was, gave⟩ := Z
    dsimp only at p1 f1 r1 l1 ⊢
    rw [Array.toList_push] at p1
    have pc : es1.toList.Perm ((hashStr w k, Value.str k u) :: es.toList) := p1.trans (List.perm_append_singleton _ _)
    have pk : (es1.toList.map tx).Perm (k :: ys) := (pc.map tx).trans (List.Perm.cons k pm)
    have g1 : ∀ e ∈ es1.toList, Ent w e := by
      intro e he
      cases List.mem_cons.mp (pc.mem_iff.mp he) with
      | inl z => exact ⟨k, u, by rw [z], by rw [z]⟩
      | inr z => exact g e z
    have hb1 : es1.size < scanBound := by
      have e1 : es1.size = ys.length + 1 := by
        have := pk.length_eq
        rw [List.length_map, Array.length_toList] at this
        exact this
      rw [e1]
      exact room
    have hld : w.params.followText "set-order" = true ∨ t1.led = true := hl.imp id fun z => l1.trans z
    have fin : ∀ h', Heap.SameBut a s.heap h' → At w h' a (k :: ys) → Q true { s with heap := h' } := by
      intro h' sb r
      have q := hQ h' sb (by rw [if_neg hk]; exact r)
      rw [decide_eq_false hk] at q
      exact q
    refine wpAny_bind (hgw _ ?_)
    split
    · refine wpAny_bind ?_
      rw [hashByValue_scannable 8 (x := Value.str k u) rfl]
      refine wpAny_pure ?_
      refine add_tail (ys := k :: ys) ?_ ho hx hd g1 pk hb1 ?_ ?_ ?_ ?_
      · intro b z R q
        cases b
        · exact wpAny_pure q
        · exact wpAny_rule q
      · first | (split <;> first | exact f1 | exact SetTable.fits_plain_off f1) | exact f1
      · first | (split <;> exact r1) | exact r1
      · first | (split <;> exact hld) | exact hld
      · intro h' sb r
        dsimp only
        exact wpAny_pure (fin h' sb r)
    · refine wpAny_bind (wpAny_pure ?_)
      simp only [↓reduceIte]
      refine add_tail (ys := k :: ys) ?_ ho hx hd g1 pk hb1 f1 r1 hld ?_
      · intro b z R q
        cases b
        · exact wpAny_pure q
        · exact wpAny_rule q
      · intro h' sb r
        dsimp only
        exact wpAny_pure (fin h' sb r)
end

/-! ### the signs of a text, each once -/
abbrev one (c : Nat) : Str := ⟨#[c]⟩
theorem one_inj {c d : Nat} (h : one c = one d) : c = d := by
  have q : [c] = [d] := congrArg (fun y : Str => y.cps.toList) h
  exact (List.cons.inj q).1
/-- the members behind the first signs -/
def met : List Nat → List Nat → List Nat
  | acc, [] => acc
  | acc, c :: r => met (if c ∈ acc then acc else c :: acc) r
theorem met_len (l : List Nat) : ∀ acc : List Nat, (met acc l).length ≤ acc.length + l.length := by
  induction l with
  | nil => intro acc; exact Nat.le_refl _
  | cons c r ih =>
    intro acc
    have h := ih (if c ∈ acc then acc else c :: acc)
    show (met (if c ∈ acc then acc else c :: acc) r).length ≤ acc.length + (r.length + 1)
    split at h <;> rename_i hc
    · rw [if_pos hc]; omega
    · rw [if_neg hc]
      rw [List.length_cons] at h
      omega
theorem met_mem (l : List Nat) : ∀ (acc : List Nat) (c : Nat), c ∈ met acc l ↔ c ∈ acc ∨ c ∈ l := by
  induction l with
  | nil => intro acc c; simp [met]
  | cons d r ih =>
    intro acc c
    show c ∈ met (if d ∈ acc then acc else d :: acc) r ↔ _
    rw [ih]
    by_cases hd : d ∈ acc
    · rw [if_pos hd, List.mem_cons]
      constructor
      · rintro (q | q)
        · exact .inl q
        · exact .inr (.inr q)
      · rintro (q | q | q)
        · exact .inl q
        · exact .inl (q ▸ hd)
        · exact .inr q
    · rw [if_neg hd, List.mem_cons, List.mem_cons]
      constructor
      · rintro ((q | q) | q)
        · exact .inr (.inl q)
        · exact .inl q
        · exact .inr (.inr q)
      · rintro (q | q | q)
        · exact .inl (.inr q)
        · exact .inl (.inl q)
        · exact .inr q
theorem met_nodup (l : List Nat) : ∀ acc : List Nat, acc.Nodup → (met acc l).Nodup := by
  induction l with
  | nil => intro acc h; exact h
  | cons d r ih =>
    intro acc h
    refine ih _ ?_
    by_cases hd : d ∈ acc
    · rw [if_pos hd]; exact h
    · rw [if_neg hd]; exact List.nodup_cons.mpr ⟨hd, h⟩
theorem met_mono (l : List Nat) : ∀ (acc : List Nat), acc.length ≤ (met acc l).length := by
  induction l with
  | nil => intro acc; exact Nat.le_refl _
  | cons d r ih =>
    intro acc
    refine Nat.le_trans ?_ (ih _)
    by_cases hd : d ∈ acc
    · rw [if_pos hd]; exact Nat.le_refl _
    · rw [if_neg hd]; exact Nat.le_succ _
theorem mem_one {c : Nat} {l : List Nat} : one c ∈ l.map one ↔ c ∈ l := by
  rw [List.mem_map]
  exact ⟨fun ⟨d, hd, q⟩ => one_inj q ▸ hd, fun q => ⟨c, q, rfl⟩⟩

section
variable {P : Program} {w : World} {A : Around} {R : Result → Shared → Prop} {I : Addr} {fp wr : List Addr} {St : Nat → Heap → Prop} {x : Str}
/-- the making: sign by sign into the set at S -/
theorem loop (W : Walks P w A.in1 I fp wr x.cps.size (SignAt x) St) (S : Addr) (hS : S ∉ fp) (hfew : (met [] x.cps.toList).length + 1 < scanBound) :
    ∀ (r : List Nat) (i : Nat) (acc : List Nat) (s : Shared), x.cps.toList.drop i = r → i ≤ x.cps.size → met acc r = met [] x.cps.toList → St i s.heap → At w s.heap S (acc.map one) →
      (∀ h' tk, (∀ b o, b ≠ S → b ∉ wr → s.heap.get? b = some o → h'.get? b = some o) → At w h' S ((met [] x.cps.toList).map one) → R (.ok (.ret .none)) { s with heap := h', toks := tk }) →
      codeAny (model P w) A (.builtin "set.update.loop" ⟨[.ref S, .ref I], []⟩) R s := by
  have hSw : S ∉ wr := fun z => hS (W.sub _ z)
  intro r
  induction r with
  | nil =>
    intro i acc s hr hi hm hst hat hR
    have hin : i = x.cps.size := by
      have := List.drop_eq_nil_iff.mp hr
      rw [Array.length_toList] at this
      omega
    subst hin
    refine codeAny_builtin PyProof.Rows.F.entry_set_update_loop ?_
    rw [Around.under_plainId PyProof.Rows.F.plain_set_update_loop _]
    show wpAny _ A.in1 (pyNext (.ref I) >>= _) _ _ s
    refine wpAny_bind (W.done s _ _ hst fun h' tk k => ?_)
    show wpAny _ A.in1 (ret Value.none) _ _ _
    refine wpAny_pure (hR h' tk (fun b o _ hb e => k b o hb e) ?_)
    have e : acc = met [] x.cps.toList := hm
    rw [← e]
    exact hat.stays fun o e => k S o hSw e
  | cons c r ih =>
    intro i acc s hr hi hm hst hat hR
    obtain ⟨hx, hr2⟩ := Froz.at_of hr
    have hlt : i < x.cps.size := by
      rcases Nat.lt_or_ge i x.cps.size with z | z
      · exact z
      · rw [Array.getElem?_eq_none z] at hx
        cases hx
    refine codeAny_builtin PyProof.Rows.F.entry_set_update_loop ?_
    rw [Around.under_plainId PyProof.Rows.F.plain_set_update_loop _]
    show wpAny _ A.in1 (pyNext (.ref I) >>= _) _ _ s
    refine wpAny_bind (W.item i s _ _ hlt hst fun v h1 tk1 hv hst1 k1 => ?_)
    obtain ⟨d, u, hd, rfl⟩ := hv
    have ed : d = c := Option.some.inj (hd.symm.trans hx)
    subst ed
    have hat1 : At w h1 S (acc.map one) := hat.stays fun o e => k1 S o hSw e
    show wpAny _ A.in1 (holding [Value.str (one d) u] (setAdd S (.str (one d) u)) >>= _) _ _ _
    refine wpAny_bind (wpAny_holding ?_)
    unfold setAdd
    refine wpAny_holding ?_
    refine wpAny_bind ((strKind P w).pyHash (k := one d) (Froz.is_str _ _) ?_)
    have hlen : (acc.map one).length + 1 < scanBound := by
      rw [List.length_map]
      have := met_mono (d :: r) acc
      rw [hm] at this
      omega
    refine add_hashed (ys := acc.map one) (s := { s with heap := h1, toks := tk1 + 1 }) hat1 hlen fun h2 sb hat2 => ?_
    have e2 : (if one d ∈ acc.map one then acc.map one else one d :: acc.map one) = (if d ∈ acc then acc else d :: acc).map one := by
      by_cases z : d ∈ acc
      · rw [if_pos z, if_pos (mem_one.mpr z)]
      · rw [if_neg z, if_neg (fun q => z (mem_one.mp q))]
        rfl
    rw [e2] at hat2
    have k2 : ∀ b o, b ≠ S → h1.get? b = some o → h2.get? b = some o := fun b o hb e => (sb.2 b hb).trans e
    refine wpAny_pure ⟨plainId_quiet PyProof.Rows.F.plain_set_update_loop _, ih (i + 1) _ _ hr2 hlt hm (W.frame _ _ _ hst1 fun b hb o e => k2 b o (fun z => hS (z ▸ hb)) e) hat2 fun h3 tk3 k3 hat3 => ?_⟩
    exact hR h3 tk3 (fun b o hb hw e => k3 b o hb hw (k2 b o hb (k1 b o hw e))) hat3
end
end Tx

set_option Elab.async false
set_option linter.all false
set_option maxRecDepth 100000
set_option maxHeartbeats 3200000
/-! sets of texts: set(a text), sorted(it), as calls -/
namespace Tx
open PySem PySem.Spec PyProof.Rows L2

section
variable {P : Program} {w : World} {A : Around} {E : Value → Shared → Prop} {s : Shared}
theorem fresh_at (w : World) (h : Heap) (led : Bool) (hl : w.params.followText "set-order" = true ∨ led = true) :
    At w (h.push { cls := .type "set", dict := none, data := .set #[] 0 (.fresh 0 0 led) }) h.objs.size ([] : List Str) :=
  ⟨_, #[], 0, .fresh 0 0 led, Heap.get?_push_size _ rfl, ⟨rfl, rfl, rfl⟩, rfl, (fun e he => by simp at he), by simp, by decide, by rfl, List.Pairwise.nil, hl⟩

/-- a new set, as set.__new__ lays it -/
theorem new_set (v : Value) {R : Value → Shared → Prop}
    (h : R (.ref s.heap.objs.size) { s with heap := s.heap.push { cls := .type "set", dict := none, data := .set #[] 0 (.fresh 0 0 (!w.params.followText "set-order")) } }) :
    codeAny (model P w) A (.call (.builtin "set.__new__") ⟨[.type "set", v], []⟩) (wants R E) s := by
  refine codeAny_of_tree ?_
  show wpAny _ A.in1 (do
    checkBuiltinCall "set.__new__" ⟨[.type "set", v], []⟩
    again (.builtin "set.__new__" ⟨[.type "set", v], []⟩)) _ _ s
  refine wpAny_bind (wpAny_of_eq (F.newCall_set_1 v) (wpAny_pure ⟨plainId_quiet F.plain_set_new _, codeAny_builtin F.entry_set_new ?_⟩))
  rw [Around.under_plainId F.plain_set_new _]
  unfold Builtin.«set.__new__»
  unfold Builtin.Frozenset.newClass
  have hsub := sub_set_self
  obtain ⟨hp, g, d, tk, os⟩ := s
  dsimp only
  wp_walk
  refine wpAny_askSetting (wpAny_pure ?_)
  dsimp only
  simp only [newObj]
  exact wpAny_bind (wpAny_alloc (wpAny_pure (wpAny_pure h)))

theorem call_set_text {x : Str} {t : Tok} {Q : Value → Shared → Prop} (hh : A.handled = none) (hfew : (met [] x.cps.toList).length + 1 < scanBound)
    (h : ∀ (h' : Heap) (tk : Nat), At w h' s.heap.objs.size ((met [] x.cps.toList).map one) → (∀ b o, s.heap.get? b = some o → h'.get? b = some o) → Q (.ref s.heap.objs.size) { s with heap := h', toks := tk }) :
    wpAny (model P w) A (call (.type "set") [.str x t]) Q E s := by
  obtain ⟨c, tl, hmro⟩ := PySem.F.called_set.mro
  have hmade := PySem.F.called_set.made
  have hsub := PySem.F.called_set.sub
  refine wpAny_call (codeAny_of_tree ?_)
  show wpAny _ _ (callAny (.type "set") _) _ _ _
  refine wpAny_pure ⟨Code.quiet_builtin _ (by decide +kernel), codeAny_builtin PySem.F.entry_type_call ?_⟩
  rw [Around.under_plain (weight_type_call_type "set" [.str x t] []) rfl]
  have h1 := PySem.F.called_set.notType
  have h2 := PySem.F.called_set.canCreate
  have hct := PySem.F.typeCall_set_1 (.str x t)
  repeat (any_goals (first | assumption | wp_step))
  refine codeAny_mono (new_set (P := P) (w := w) (E := E) (.str x t) (R := fun obj z => ∃ led : Bool, (w.params.followText "set-order" = true ∨ led = true) ∧ obj = .ref s.heap.objs.size ∧ z = { s with heap := s.heap.push { cls := .type "set", dict := none, data := .set #[] 0 (.fresh 0 0 led) } }) ⟨_, ?_, rfl, rfl⟩) fun r z hr => ?_
  · cases w.params.followText "set-order"
    · exact .inr rfl
    · exact .inl rfl
  cases r with
  | error e => exact hr
  | ok fl =>
    cases fl with
    | ret obj =>
      obtain ⟨led, hled, rfl, rfl⟩ := hr
      have hS : (s.heap.push { cls := .type "set", dict := none, data := .set #[] 0 (.fresh 0 0 led) }).get? s.heap.objs.size = some { cls := .type "set", dict := none, data := .set #[] 0 (.fresh 0 0 led) } := Heap.get?_push_size _ rfl
      have hT : Shared.TypeIs { s with heap := s.heap.push { cls := .type "set", dict := none, data := .set #[] 0 (.fresh 0 0 led) } } (.ref s.heap.objs.size) "set" := ⟨_, hS, rfl⟩
      have hli := PySem.F.called_set.init.lookup
      have hbi := PySem.F.called_set.init.bind (.ref s.heap.objs.size)
      repeat (any_goals (first | assumption | wp_step))
      refine codeAny_mono (codeAny_call_builtin (R := wants (fun r z => r = .none ∧ ∃ h' tk, z = { s with heap := h', toks := tk } ∧ At w h' s.heap.objs.size ((met [] x.cps.toList).map one) ∧
          (∀ b o, s.heap.get? b = some o → h'.get? b = some o)) E) PySem.F.called_set.init.plain PySem.F.entry_set_init (check_set_init_1 hT ?_)) fun r₂ s₂ hr₂ => ?_
      · unfold Builtin.«set.__init__» noKeywords Builtin.Frozenset.updateFrom
        generalize hPI : pyIter = PI
        generalize hAS : Builtin.Frozenset.isAnySet = AS
        wp_walk
        subst hPI
        subst hAS
        refine L2.Fz.anySet ?_
        simp only [Bool.false_eq_true, ↓reduceIte]
        refine wpAny_bind (wpAny_typeOf (typeIs_str _ _ _) ?_)
        have hsd : (Value.type "str" == Value.type "dict") = false := by decide
        simp only [hsd, Bool.false_eq_true, ↓reduceIte]
        refine wpAny_bind (wpAny_pyIter_str fun o St W hst => ?_)
        refine wpAny_bind (wpAny_runValue ?_)
        have hne : s.heap.objs.size ∉ [(s.heap.push { cls := .type "set", dict := none, data := .set #[] 0 (.fresh 0 0 led) }).objs.size] := by
          rw [Heap.size_push, List.mem_singleton]
          exact Nat.ne_of_lt (Nat.lt_succ_self _)
        refine loop (W _ (by simp [hh])) s.heap.objs.size hne hfew _ 0 [] _ (by rfl) (Nat.zero_le _) rfl hst ?_ ?_
        · exact (fresh_at w s.heap led hled).stays fun o e => Heap.get?_push_of_some _ e
        · intro h' tk k hat
          refine wpAny_pure ?_
          show wpAny _ _ (ret Value.none) _ _ _
          refine wpAny_pure ⟨rfl, h', tk, rfl, hat, fun b o e => ?_⟩
          have hb := Heap.lt_size e
          refine k b o (Nat.ne_of_lt hb) ?_ (Heap.get?_push_of_some _ (Heap.get?_push_of_some _ e))
          rw [Heap.size_push, List.mem_singleton]
          exact Nat.ne_of_lt (Nat.lt_succ_of_lt hb)
      · cases r₂ with
        | error e => exact hr₂
        | ok fl₂ =>
          cases fl₂ with
          | ret r =>
            obtain ⟨rfl, h', tk, rfl, hS', hk'⟩ := hr₂
            repeat (any_goals (first | assumption | wp_step))
            exact h _ _ hS' hk'
          | _ => exact hr₂.elim
    | _ => exact hr.elim

/-! ### sorted(a set of one-sign texts) -/
theorem vals_strs {vs : List Value} : ∀ {es : List (Int × Value)}, (∀ e ∈ es, Ent w e) → vs.Perm (es.map (·.2)) → StrsAre vs (vs.map strOf) ∧ (vs.map strOf).Perm (es.map tx) := by
  intro es g p
  refine ⟨strsAre_map vs fun v hv => ?_, ?_⟩
  · obtain ⟨e, he, q⟩ := List.mem_map.mp (p.mem_iff.mp hv)
    obtain ⟨y, u, q1, _⟩ := g e he
    exact ⟨y, u, by rw [← q]; exact q1⟩
  · have q := p.map strOf
    rw [List.map_map] at q
    have e : es.map (strOf ∘ (·.2)) = es.map tx := List.map_congr_left fun e he => by
      obtain ⟨y, u, q1, _⟩ := g e he
      show strOf e.2 = tx e
      unfold tx
      rw [q1]
      rfl
    rw [e] at q
    exact q
theorem pairwise_of_sortedS : ∀ (l : List Str), sortedS l = true → l.Pairwise (fun a b => ltCps b.cps.toList a.cps.toList = false) := by
  have trans : ∀ a b c : List Nat, ltCps b a = false → ltCps c b = false → ltCps c a = false := by
    intro a b c h1 h2
    rw [ltCps_eq] at h1 h2 ⊢
    have h1' := of_decide_eq_false h1
    have h2' := of_decide_eq_false h2
    refine decide_eq_false fun z => ?_
    have n1 : a ≤ b := List.not_lt.mp h1'
    have n2 : b ≤ c := List.not_lt.mp h2'
    exact absurd z (List.not_lt.mpr (List.le_trans n1 n2))
  have all : ∀ (l : List Str) (p : Str), risingS p l = true → (p :: l).Pairwise (fun a b => ltCps b.cps.toList a.cps.toList = false) := by
    intro l
    induction l with
    | nil => intro p _; exact List.pairwise_singleton _ _
    | cons x r ih =>
      intro p h
      have h' : (!ltCps x.cps.toList p.cps.toList && risingS x r) = true := h
      rw [Bool.and_eq_true, Bool.not_eq_true'] at h'
      have q := ih x h'.2
      refine List.pairwise_cons.mpr ⟨fun y hy => ?_, q⟩
      rcases List.mem_cons.mp hy with z | z
      · rw [z]; exact h'.1
      · exact trans _ _ _ h'.1 ((List.pairwise_cons.mp q).1 y z)
  intro l h
  cases l with
  | nil => exact List.Pairwise.nil
  | cons x r => exact all r x h
theorem lt_one {c d : Nat} (h : ltCps (one d).cps.toList (one c).cps.toList = false) : c ≤ d := by
  rw [ltCps_eq] at h
  have q := of_decide_eq_false h
  rcases Nat.lt_or_ge d c with z | z
  · exact absurd (show [d] < [c] from List.cons_lt_cons_iff.mpr (.inl z)) q
  · exact z
/-- sorted one-sign texts, each once, are a rising row of signs -/
theorem rising {ss : List Str} {acc : List Nat} (p : ss.Perm (acc.map one)) (hs : sortedS ss = true) (hn : acc.Nodup) : ∃ ns : List Nat, ss = ns.map one ∧ ns.Perm acc ∧ ns.Pairwise (· < ·) := by
  have back : ∀ l : List Nat, (l.map one).map (fun y => y.cps.toList.headD 0) = l := by
    intro l
    rw [List.map_map]
    exact (List.map_congr_left fun c _ => rfl).trans (List.map_id l)
  have e : ss = (ss.map (fun y => y.cps.toList.headD 0)).map one := by
    rw [List.map_map]
    refine ((List.map_congr_left fun y hy => ?_).trans (List.map_id ss)).symm
    obtain ⟨c, _, q⟩ := List.mem_map.mp (p.mem_iff.mp hy)
    subst q
    rfl
  have pm : (ss.map (fun y => y.cps.toList.headD 0)).Perm acc := by
    have q := p.map (fun y => y.cps.toList.headD 0)
    rw [back] at q
    exact q
  refine ⟨_, e, pm, ?_⟩
  generalize ss.map (fun y => y.cps.toList.headD 0) = ns at e pm ⊢
  subst e
  have h1 := List.pairwise_map.mp (pairwise_of_sortedS _ hs)
  have h2 : ns.Nodup := pm.nodup_iff.mpr hn
  have h3 : ns.Pairwise (· ≠ ·) := h2
  refine List.Pairwise.imp₂ (fun x y a b => ?_) h1 h3
  have c := lt_one a
  omega

theorem sorted_text {a : Addr} {acc : List Nat} {Q : Value → Shared → Prop} (R : At w s.heap a (acc.map one)) (hn : acc.Nodup) (hh : A.handled = none) (h64 : acc.length < 64)
    (hQ : ∀ z p (out : Array Value) (c : Nat) (ns : List Nat), (∀ b o, s.heap.get? b = some o → z.heap.get? b = some o) → z.gens = s.gens → z.os = s.os → s.heap.objs.size ≤ p →
      z.heap.get? p = some (seqObj "list" out c) → StrsAre out.toList (ns.map one) → ns.Pairwise (· < ·) → ns.Perm acc → Q (.ref p) z) :
    wpAny (model P w) A (call (.builtin "sorted") [.ref a]) Q E s := by
  obtain ⟨o, es, ep, t, ho, hx, hd, g, pm, hb, hf, hr, hl⟩ := R
  refine Calls.call_function_entry kind_sorted plain_sorted entry_sorted (args_sorted1 _) ?_
  unfold Builtin.«sorted»
  refine wpAny_bind (m := checkCount "sorted" 1 1 _) (wpAny_pure ?_)
  refine wpAny_bind (collect_set (A := A.in1) hh ⟨o, ho, hx.1, hd⟩ hf hb hr hl fun s1 vs k1 hz g1 o1 pv => ?_)
  obtain ⟨hS, ps⟩ := vals_strs (w := w) g pv
  have ps2 := ps.trans pm
  have hvl : vs.length < 64 := by
    have q := ps2.length_eq
    rw [List.length_map, List.length_map] at q
    rw [q]; exact h64
  refine wpAny_bind (wpAny_newList ?_ (by rw [sizeLine_eq]; omega))
  have hoL : (s1.heap.push (seqObj "list" vs.toArray 0)).get? s1.heap.objs.size = some (seqObj "list" vs.toArray 0) := Heap.get?_push_size _ rfl
  refine wpAny_bind (wpAny_holding (wpAny_call_entry slot_list_sort ⟨_, hoL, rfl⟩ entry_list_sort
    (list_sort_treeK strKind_oneLt hoL hS.keysOf (fun v₁ v₂ rest e => keyKind_strs (by rw [← e]; exact hS)) hvl fun st' hp hs => ⟨_, rfl, ?_⟩) (args_list_sort _)))
  obtain ⟨ss, b1, b2, b3⟩ := sorted_out_str hS hp hs
  obtain ⟨ns, e, pn, ris⟩ := rising (b2.trans ps2) b3 hn
  subst e
  obtain ⟨c, hc⟩ := sortedHeap_at (vs := vs) (out := (arrOf st').map (·.2)) hoL
  refine wpAny_pure ⟨_, rfl, hQ _ s1.heap.objs.size _ c ns (fun b u e => ?_) g1 o1 hz hc b1 ris pn⟩
  have q := k1 b u e
  have hlt := Heap.lt_size q
  show (sortedHeap (s1.heap.push (seqObj "list" vs.toArray 0)) s1.heap.objs.size vs _).get? b = some u
  rw [sortedHeap_old (Nat.ne_of_lt hlt) (by rw [size_push']; exact Nat.lt_succ_of_lt hlt)]
  exact Heap.get?_push_of_some _ q
end
end Tx

set_option Elab.async false
set_option linter.all false
set_option maxRecDepth 100000
set_option maxHeartbeats 3200000
/-! defs that show data by repr: what is known of a call's guards goes along -/
namespace Tg
open PySem PySem.Spec PyProof.Rows L2

/-- nothing is being shown where the call stands -/
abbrev Still (A : Around) : Prop := A.guards = some []

/-- a def's promise, kept where nothing is being shown -/
structure Kept (P : Program) (w : World) (K : PySem.W.Frag) (mg : Str → Option Value) (base : Heap) (cx : CXT) (k : Nat) (f : Addr) (fd : FuncData) (ps : List Str) (sp : Sp) : Prop where
  long : ∀ xs H Q E, sp xs H Q E → xs.length = ps.length
  goes : ∀ (A : Around) (out : List Env) (s : Shared) (H : Hp) (args : Args) (us : List Value) (xs : List V) (Q : VK) (E : XK), Room k A → Still A → Env0 P w K mg base A out s H →
    BindsTo s fd args (ps.zip us) → Vals xs us → sp xs H Q E → codeAny (model P w) A (.call (.ref f) args) (CR cx out P w H s Q E) s

section
variable {P : Program} {w : World} {K : PySem.W.Frag} {mg : Str → Option Value} {base : Heap}
theorem Kept.ok {cx : CXT} {k : Nat} {f : Addr} {name qual : Str} {params : Arguments} {body : List Stmt} {scope : Scope} {dV kV doc pm cdv ct oc : Value} {an od : Option Addr}
    {osl : Array (Option Value)} {N ps : List Str} {sp : Sp}
    (look : K.lookup f = some ⟨oc, od, .func (PySem.W.fnOf name qual params body scope dV kV doc pm an cdv ct), osl⟩)
    (code : PySem.W.codeIn K cdv qual = true) (S : FnScope N ps scope) (long : ∀ xs H Q E, sp xs H Q E → xs.length = ps.length)
    (inner : ∀ (A : Around) (out : List Env) (s : Shared) (H : Hp) (xs : List V) (Q : VK) (E : XK), Room k (A.deeper (envOfC qual scope s.heap.objs.size f cdv)) →
      Still (A.deeper (envOfC qual scope s.heap.objs.size f cdv)) → sp xs H Q E →
      ∃ t, PSs (cxOf cx P w K mg base N qual scope f cdv A out s H E) body t ∧ t { nx := fun _ H2 => Q .non H2, rt := Q } (start N xs) H) :
    Kept P w K mg base cx (k + 1) f (PySem.W.fnOf name qual params body scope dV kV doc pm an cdv ct) ps sp where
  long := long
  goes := by
    intro A out s H args us xs Q E room still e0 bound rel hsp
    have hl := long _ _ _ _ hsp
    have inK : K.In s.heap := e0.mod.kin.keeps fun b o e => (e0.bs b o e).1
    have limit : s.heap.NoLimit := e0.mod.nolimit.keeps fun b o e => (e0.bs b o e).1
    have kinds : ∀ y ∈ ps.zip us, scope.names.lookup y.1 = some .local ∨
        (scope.names.lookup y.1 = some .cell ∧ ((cellsFrom (s.heap.objs.size + 1) scope.names []).lookup y.1).isSome = true) := by
      rintro ⟨n, v⟩ hy
      cases S.par n (List.of_mem_zip hy).1 with
      | inl q => exact .inl q
      | inr q => exact .inr ⟨q, PySem.W.cellsFrom_some _ _ _ (.inl q)⟩
    refine codeAny_call_function room.depth (inK _ _ look) rfl S.co S.gen rfl (PySem.W.codeRec_of inK code) (bound _ _ _ _ ?_)
    refine wpAny_newFunctionEnv_cells S.kind kinds fun env he z x => ?_
    subst he
    refine ⟨limit.keeps x.toInCall.keep, codeAny_func ?_⟩
    obtain ⟨t, ht, hq⟩ := inner A out s H xs Q E (room.deeper _) still hsp
    have J0 : Inv (cxOf cx P w K mg base N qual scope f cdv A out s H E) [] (start N xs) H z := inv_start S room.hd e0 hl rel x
    refine wpAny_mono (ht.run [] z (start N xs) H _ J0 hq) (fun fl z' hs => ?_) fun e z' hs => hs
    have close : ∀ {σ' : L2.St} {H2 : Hp} {v : V} {u : Value}, Inv (cxOf cx P w K mg base N qual scope f cdv A out s H E) [] σ' H2 z' → RelV v u → Q v H2 → CE out P w H s Q u z' := by
      intro σ' H2 v u J rv q
      exact ⟨v, H2, J.os, J.bare, J.base, J.hok, rv, q⟩
    cases fl with
    | ret u =>
      obtain ⟨v, σ', H2, J, rv, q⟩ := hs
      exact close J rv q
    | next =>
      obtain ⟨σ', H2, J, q⟩ := hs
      exact close (v := V.non) (u := Value.none) J rfl q
    | brk =>
      obtain ⟨_, _, _, q⟩ := hs
      exact q.elim
    | cont =>
      obtain ⟨_, _, _, q⟩ := hs
      exact q.elim

/-- for a def of the text that lets nothing out -/
theorem Kept.fn {x qual : Str} {st : Stmt} {f : Addr} {fd : FuncData} {N ps : List Str} {k : Nat} {sp : Sp} (F : Fun K x qual st f fd) (S : FnScope N ps (defScope st))
    (long : ∀ xs H Q E, sp xs H Q E → xs.length = ps.length)
    (inner : ∀ (cdv : Value) (A : Around) (out : List Env) (s : Shared) (H : Hp) (xs : List V) (Q : VK) (E : XK), Room k (A.deeper (envOfC qual (defScope st) s.heap.objs.size f cdv)) →
      Still (A.deeper (envOfC qual (defScope st) s.heap.objs.size f cdv)) → sp xs H Q E →
      ∃ t, PSs (cxOf CX0 P w K mg base N qual (defScope st) f cdv A out s H E).nox (defBody st) t ∧ t { nx := fun _ H2 => Q .non H2, rt := Q } (start N xs) H) :
    Kept P w K mg base CX0 (k + 1) f fd ps sp := by
  obtain ⟨oc, od, kV, doc, pm, an, cdv, ct, osl, e, look, code⟩ := F.ex
  subst e
  refine Kept.ok look code S long fun A out s H xs Q E room still hsp => ?_
  obtain ⟨t, h, q⟩ := inner cdv A out s H xs Q E room still hsp
  exact ⟨t, h.nox, q⟩
end

section
variable {X : Cx} {cx : CXT} {k : Nat} {f : Addr} {fd : FuncData} {ps : List Str} {sp : Sp} {dvs : List V} {ds : List Value} {E : XK} {x : Str} {p pos : Pos} {e : Expr} {es : List Expr} {t : TA}
theorem Kept.runs {pins : List (Addr × Obj)} {σ : L2.St} {H : Hp} {s : Shared} {Q : VK} {us : List Value} {xs : List V} (F : Kept X.prog X.w X.K X.mg X.base cx k f fd ps sp) (room : Room k X.A) (still : Still X.A)
    (hb : Binds X.K fd ps ds) (hd : Vals dvs ds) (hx : Passes cx X E) (I : Inv X pins σ H s) (r : Vals xs us) (h : sp (xs ++ dvs) H Q E) :
    wpAny (model X.prog X.w) X.A (call (.ref f) us) (EP X pins σ Q) X.xe s := by
  have r2 : Vals (xs ++ dvs) (us ++ ds) := r.append hd
  have hl : (us ++ ds).length = ps.length := r2.length.symm.trans (F.long _ _ _ _ h)
  refine wpAny_call (codeAny_mono (F.goes X.A X.stack s H ⟨us, []⟩ (us ++ ds) (xs ++ dvs) Q E room still I.env0 (hb s us I.kIn hl) r2 h) fun r z hq => ?_)
  match r, hq with
  | .error e, hq => exact hx pins σ H s e z I hq
  | .ok (.ret u), hq => exact I.after hq
  | .ok .next, hq => exact False.elim hq
  | .ok .brk, hq => exact False.elim hq
  | .ok .cont, hq => exact False.elim hq
/-- f(e, ..) of such a def -/
theorem pe_callG (F : Kept X.prog X.w X.K X.mg X.base cx k f fd ps sp) (room : Room k X.A) (still : Still X.A) (hg : Gl X x) (hm : X.mg x = some (.ref f)) (hk : PySem.W.keepIn X.K (.ref f) = true)
    (hb : Binds X.K fd ps ds) (hd : Vals dvs ds) (hx : Passes cx X E) (ha : PA X (e :: es) t) (hdb : (x == ("__debug__" : Str)) = false := by decide)
    (he : starEach (e :: es) X.env = (false, eval e X.env) :: starEach es X.env := by rfl) (hpl : (backTo pos (starEach es X.env)).any (·.1) = false := by rfl) :
    PE X (.Call (.Name x p) (e :: es) [] pos) (tCall sp dvs E t) := by
  constructor
  intro pins s σ H Q I h
  refine wpAny_Call_Name_kw (ld_glob I hg hm ?_ hdb)
  refine PySem.W.callWith_K (h₀ := X.base) I.ok.mod.kin hk ?_ he hpl
  exact thn (ha.run pos pins s σ H _ I h) fun us z ⟨xs, H1, J, r, q⟩ => ⟨J.kIn, F.runs room still hb hd hx J r q⟩

/-- data as it stands in the abstract heap: none, bools, ints, texts, lists, tuples, and dicts of texts and ints -/
inductive Data (K : PySem.W.Frag) (H : Hp) : V → PyData → Prop
  | flat {v : V} {d : PyData} (h : Dp K H v d) (n : d.hasDict = false) : Data K H v d
  | dict {a : Addr} {kvs : List (Str × Int)} (h : H a = some (.dK (kvs.map fun p => (Sum.inr p.1, V.int p.2)))) : Data K H (.ref a) (.dict (kvs.map fun p => (.str p.1, .int p.2)))

theorem keys_flat (h : Heap) : ∀ (kvs : List (Str × Int)) (es : List DictEntry) (vs : List (Key × Value)), Pairs (mixKind X.prog X.w) es vs → KV (kvs.map fun p => (Sum.inr p.1, V.int p.2)) vs →
    ReadsAll h (es.map (·.key)) ((kvs.map fun p => ((PyData.str p.1, PyData.int p.2) : PyData × PyData)).map (·.1)) [] ∧ ReadsAll h (es.map (·.val)) ((kvs.map fun p => ((PyData.str p.1, PyData.int p.2) : PyData × PyData)).map (·.2)) [] := by
  intro kvs
  induction kvs with
  | nil =>
    intro es vs hp rel
    cases rel
    cases hp
    exact ⟨.nil, .nil⟩
  | cons p kvs ih =>
    intro es vs hp rel
    cases rel with
    | @cons _ kv _ vs' r1 r2 =>
      cases hp with
      | @cons e _ es' _ hk hv hp' =>
        obtain ⟨q1, q2⟩ := ih _ _ hp' r2
        obtain ⟨k0, v0⟩ := kv
        obtain ⟨r3, r4⟩ := r1
        dsimp only at r3 r4 hk hv
        subst r3
        obtain ⟨t, r4⟩ := r4
        rcases keyIs_shape (show keyIs (Sum.inr p.1 : Key) e.key = true from hk) with ⟨i, t', z, _⟩ | ⟨x, t', z, e'⟩
        · cases z
        · cases z
          refine ⟨?_, ?_⟩
          · show ReadsAll h (e.key :: _) (PyData.str p.1 :: _) ([] ++ [])
            rw [e']
            exact .cons (.str _ _) q1
          · show ReadsAll h (e.val :: _) (PyData.int p.2 :: _) ([] ++ [])
            rw [hv, r4]
            exact .cons (.int _ _) q2
theorem Data.reads {pins : List (Addr × Obj)} {σ : L2.St} {H : Hp} {s : Shared} (I : Inv X pins σ H s) {v : V} {u : Value} {d : PyData} (h : Data X.K H v d) (r : RelV v u) :
    ∃ as, Reads s.heap u d as ∧ (d.hasDict = true → sysModules ∉ as) := by
  cases h with
  | flat h n =>
    obtain ⟨as, q⟩ := Dp.reads I d v u h r
    exact ⟨as, q, fun z => by rw [n] at z; cases z⟩
  | @dict a kvs h =>
    cases r
    obtain ⟨hz, hs, vs, rel, o, es, ep, ho, hx, hd, _, hp, _⟩ := I.hok a _ h
    obtain ⟨q1, q2⟩ := keys_flat (X := X) s.heap kvs _ _ hp rel
    refine ⟨_, Reads.dict ho hx.1 hd q1 q2, fun _ z => ?_⟩
    simp only [List.append_nil, List.mem_singleton] at z
    rw [z] at hs
    simp at hs

/-- repr(x) -/
def rShow (K : PySem.W.Frag) : List V → Hp → VK → Prop := fun xs H Q => ∃ (x : V) (d : PyData), xs = [x] ∧ Data K H x d ∧ d.showable = true ∧ d.depth < 60 ∧ d.shown.length ≤ sizeLine ∧ Q (.str d.shown) H
theorem call_show (still : Still X.A) (hu : X.A.units + 64 < cLine) : CallR X (.builtin "repr") (rShow X.K) := by
  intro pins s σ H xs us Q I r h
  obtain ⟨x, d, rfl, hd, h1, h3, h4, q⟩ := h
  obtain ⟨u, rfl, r1⟩ : ∃ u, us = [u] ∧ RelV x u := by
    cases r with
    | cons a b => cases b; exact ⟨_, rfl, a⟩
  obtain ⟨as, rd, hsm⟩ := Data.reads I hd r1
  cases rd with
  | none => exact P.repr_of_none ⟨.str (PyData.shown .none), H, I.tok _, ⟨_, rfl⟩, q⟩
  | bool b => exact P.repr_of_bool ⟨.str (PyData.shown (.bool b)), H, I.tok _, ⟨_, rfl⟩, q⟩
  | int i t => exact P.repr_of_int (of_decide_eq_true h1) ⟨.str (PyData.shown (.int i)), H, I.tok _, ⟨_, rfl⟩, q⟩
  | str z t => exact P.repr_of_str ⟨.str (PyData.shown (.str z)), H, I.tok _, ⟨_, rfl⟩, q⟩ h4
  | list a1 a2 a3 a4 => exact repr_of_reads' (Reads.list a1 a2 a3 a4) h1 hsm still (by omega) (fun _ _ e => e) (fun h' u tk hk => ⟨.str (PyData.shown _), H, I.kept (t' := tk) hk, ⟨_, rfl⟩, q⟩) h4
  | tuple a1 a2 a3 a4 => exact repr_of_reads' (Reads.tuple a1 a2 a3 a4) h1 hsm still (by omega) (fun _ _ e => e) (fun h' u tk hk => ⟨.str (PyData.shown _), H, I.kept (t' := tk) hk, ⟨_, rfl⟩, q⟩) h4
  | dict a1 a2 a3 a4 a5 => exact repr_of_reads' (Reads.dict a1 a2 a3 a4 a5) h1 hsm still (by omega) (fun _ _ e => e) (fun h' u tk hk => ⟨.str (PyData.shown _), H, I.kept (t' := tk) hk, ⟨_, rfl⟩, q⟩) h4
end

/-! ### the head: the law's call, nothing being shown -/
section
variable {P : Program} {w : World} {K : PySem.W.Frag} {mg mb : Str → Option Value} {cx : CXT} {k : Nat} {fa a : Addr} {fd : FuncData} {x : Str} {sp : Sp} {s₁ : Shared} {vs : List Value} {ns : List Int}
/-- from one abstract heap in which at most the script stands -/
theorem law_core (KX : K.In s₁.heap) (hns : s₁.heap.Ns mainGlobals mg) (hb : s₁.heap.Ns builtinsNs mb) (hbb : ∀ x : Str, x ≠ "__name__" → mb x = bootBuiltins x) (hlim : s₁.heap.NoLimit) (hg : s₁.gens = #[])
    (ha : s₁.heap.get? a = some { cls := .type "list", data := .seq vs.toArray }) (room : Room k callerA)
    (F : ∀ base : Heap, K.In base → base.Ns mainGlobals mg → Kept P w K mg base cx k fa fd [x] sp) (hbind : ∀ (s : Shared) (u : Value), BindsTo s fd ⟨[u], []⟩ [(x, u)])
    (hcx : ∀ H e z, cx [] H s₁ (fun _ _ _ => False) e z → False)
    (H : Hp) (only : Only H) (want : sp [.ref a] H (fun v _ => v = .bl true) fun _ _ _ => False) (hok : HOk P w H s₁.heap) (at_a : ∀ b, H b ≠ none → b = a) (notK : H a ≠ none → K.lookup a = none) :
    codeAny (model P w) callerA (.call (.ref fa) ⟨[.ref a], []⟩) (fun r z => r = .ok (.ret (.bool true)) ∧ OldK s₁.heap z.heap ∧ z.os = s₁.os ∧ AllBare z.gens) s₁ := by
  have under : ∀ {b : Addr} {o : Obj}, s₁.heap.get? b = some o → H b = none → (hidT s₁.heap H).get? b = some o := fun e n => hidT_get e n
  have away : ∀ {b : Addr}, (b = a → False) → H b = none := by
    intro b n
    cases q : H b with
    | none => rfl
    | some u => exact (n (at_a b (by rw [q]; simp))).elim
  have noDict : ∀ {b : Addr} {o : Obj} {es : Array DictEntry} {ep : Nat}, s₁.heap.get? b = some o → o.data = .dict es ep → H b = none := by
    intro b o es ep e d
    refine away fun z => ?_
    subst z
    rw [ha] at e
    cases e
    cases d
  have names : ∀ {b : Addr} {m : Str → Option Value}, s₁.heap.Ns b m → (hidT s₁.heap H).Ns b m := by
    rintro b m ⟨o, es, ep, e, d, r⟩
    exact ⟨o, es, ep, under e (noDict e d), d, r⟩
  have inB : K.In (hidT s₁.heap H) := by
    intro b o e
    refine under (KX b o e) ?_
    cases q : H b with
    | none => rfl
    | some u =>
      have z := at_a b (by rw [q]; simp)
      subst z
      have n := notK (by rw [q]; simp)
      rw [n] at e
      cases e
  have md : Mod K mg (hidT s₁.heap H) := ⟨inB, names hns, ⟨mb, names hb, hbb⟩, let ⟨mc, h1, h2⟩ := hlim; ⟨mc, names h1, h2⟩⟩
  have e0 : Env0 P w K mg (hidT s₁.heap H) callerA [] s₁ H := by
    refine ⟨rfl, md, fun b o e => of_hidT e, Nat.le_of_eq (hidT_size _ _), trivial, fun b hb => ?_, hok, .of_eq hg⟩
    exact absurd (show b ∈ ([] : List Addr) from hb) (by simp)
  refine codeAny_mono ((F _ inB (names hns)).goes callerA [] s₁ H ⟨[.ref a], []⟩ [.ref a] [.ref a] _ _ room rfl e0 (hbind s₁ (.ref a)) (.cons rfl .nil) want) fun r z h => ?_
  match r, h with
  | .error e, h => exact (hcx H e z h).elim
  | .ok .next, h => exact False.elim h
  | .ok .brk, h => exact False.elim h
  | .ok .cont, h => exact False.elim h
  | .ok (.ret u), h =>
    obtain ⟨v, H2, os, bare, un, hok2, r2, q⟩ := h
    have q' : v = .bl true := q
    subst q'
    obtain rfl : u = Value.bool true := r2
    refine ⟨rfl, OldK.of_keep fun b o e => ?_, os, bare⟩
    cases q : H b with
    | none =>
      refine un.keep b o e q (fun y => ?_) (by simp)
      exact absurd (show b ∈ ([] : List Addr) from y) (by simp)
    | some u =>
      rcases only b with y | ⟨ob, xs, y⟩
      · rw [q] at y
        cases y
      · have y2 := un.frzs b ob _ y
        obtain ⟨e1, _⟩ := hok b _ y
        obtain ⟨e2, _⟩ := hok2 b _ y2
        rw [e] at e1
        cases e1
        exact e2

theorem law_call (KX : K.In s₁.heap) (hns : s₁.heap.Ns mainGlobals mg) (hb : s₁.heap.Ns builtinsNs mb) (hbb : ∀ x : Str, x ≠ "__name__" → mb x = bootBuiltins x) (hlim : s₁.heap.NoLimit) (hg : s₁.gens = #[])
    (ha : s₁.heap.get? a = some { cls := .type "list", data := .seq vs.toArray }) (hi : IntsAre vs ns) (hl : ns.length ≤ sizeLine) (room : Room k callerA)
    (F : ∀ base : Heap, K.In base → base.Ns mainGlobals mg → Kept P w K mg base cx k fa fd [x] sp) (hbind : ∀ (s : Shared) (u : Value), BindsTo s fd ⟨[u], []⟩ [(x, u)])
    (hsp : ∀ H : Hp, Only H → SqL K H a (ns.map V.int) → sp [.ref a] H (fun v _ => v = .bl true) fun _ _ _ => False)
    (hcx : ∀ H e z, cx [] H s₁ (fun _ _ _ => False) e z → False) :
    codeAny (model P w) callerA (.call (.ref fa) ⟨[.ref a], []⟩) (fun r z => r = .ok (.ret (.bool true)) ∧ OldK s₁.heap z.heap ∧ z.os = s₁.os ∧ AllBare z.gens) s₁ := by
  have rel := vals_ints hi
  have len := hi.length
  have core := law_core KX hns hb hbb hlim hg ha room F hbind hcx
  cases hk : K.lookup a with
  | some o =>
    have e := KX a o hk
    rw [ha] at e
    cases e
    have only : Only (fun _ => none) := fun _ => .inl rfl
    refine core (fun _ => none) only (hsp _ only ?_) (fun b u z => nomatch (show (none : Option HO) = some u from z)) (fun b z => absurd rfl z) fun z => absurd rfl z
    exact .inr ⟨_, vs.toArray, _, hk, rfl, rfl, rfl, by rw [List.size_toArray, len]; exact hl, by simpa using rel⟩
  | none =>
    have only : Only (fun b => if b = a then some (.frz { cls := .type "list", data := .seq vs.toArray } (.lst (ns.map V.int))) else none) := by
      intro b
      by_cases z : b = a
      · exact .inr ⟨_, _, if_pos z⟩
      · exact .inl (if_neg z)
    refine core _ only (hsp _ only ?_) (fun b u z => ?_) (fun b z => ?_) fun _ => hk
    · exact .inl (.inr ⟨{ cls := .type "list", data := .seq vs.toArray }, if_pos rfl⟩)
    · by_cases y : b = a
      · have z' := (if_pos y).symm.trans z
        cases z'
        subst y
        exact ⟨ha, by rw [List.length_map]; exact hl, vs, _, rel, ha⟩
      · have z' := (if_neg y).symm.trans z
        cases z'
    · by_cases y : b = a
      · exact y
      · exact absurd (if_neg y) z
end

/-- the goal that the head leaves -/
theorem walk {l : PySem.W.OpenLaw} {n k : Nat} {q : Program} {loose : List Str} {XP : (Str → Option Value) → Heap → Prop} {YP : World → Heap → Prop} {d : DefRec} {K : Params → PySem.W.Frag} {cx : World → CXT} {sp : World → Sp} {x : Str}
    (hn : l.most = some n) (hn2 : n ≤ sizeLine) (hdf : d.params.defaults = []) (room : Room k callerA) (hY : ∀ (w : World) (h : Heap), YP w h → (K w.params).In h)
    (F : ∀ (w : World) (mg : Str → Option Value) (fa : Addr) (h : Heap), (K w.params).In h → h.Ns mainGlobals mg → mg d.name = some (.ref fa) → XP mg h →
      ∃ fd : FuncData, (∀ (s : Shared) (u : Value), BindsTo s fd ⟨[u], []⟩ [(x, u)]) ∧
        ∀ base : Heap, (K w.params).In base → base.Ns mainGlobals mg → Kept l.prog w (K w.params) mg base (cx w) k fa fd [x] (sp w))
    (hsp : ∀ (w : World) (H : Hp) (a : Addr) (ns : List Int), ns.length ≤ n → Only H → SqL (K w.params) H a (ns.map V.int) → sp w [.ref a] H (fun v _ => v = .bl true) fun _ _ _ => False)
    (hcx : ∀ (w : World) (H : Hp) (s : Shared) (e : Value) (z : Shared), cx w [] H s (fun _ _ _ => False) e z → False) :
    PySem.W.WalkO q loose XP YP l.row.toRowW d [] (fun f vs => PySem.call f vs) := by
  refine Att.attach_call hn hdf ?_
  intro w s₀ s₁ mg mb fa o pm cd doc a vs ns G Y ho hd hcd hmg hobj hints hlen hg
  have KX := hY w _ Y
  obtain ⟨fd, hb, hF⟩ := F w mg fa _ KX G.T.g hmg G.X
  exact law_call KX G.T.g G.T.b G.T.builtins G.T.nolimit hg hobj hints (Nat.le_trans hlen hn2) room hF hb (fun H hO hS => hsp w H a ns hlen hO hS) fun H e z => hcx w H s₁ e z
end Tg

set_option Elab.async false
set_option linter.all false
set_option maxRecDepth 100000
set_option maxHeartbeats 3200000
/-! set(a text), sorted(it), list(a text), as rules -/
namespace Tx
open PySem PySem.Spec PyProof.Rows L2

/-- the signs of a text, each once, rising -/
def ups (l : List Nat) : List Nat := (met [] l).mergeSort (fun a b => decide (a ≤ b))
theorem ups_perm (l : List Nat) : (ups l).Perm (met [] l) := List.mergeSort_perm _ _
theorem ups_mem (l : List Nat) (c : Nat) : c ∈ ups l ↔ c ∈ l := by
  rw [(ups_perm l).mem_iff, met_mem]
  simp
theorem ups_nodup (l : List Nat) : (ups l).Nodup := (ups_perm l).nodup_iff.mpr (met_nodup l [] List.nodup_nil)
theorem ups_up (l : List Nat) : (ups l).Pairwise (· < ·) := by
  have h1 : (ups l).Pairwise (fun a b => decide (a ≤ b) = true) :=
    List.pairwise_mergeSort (le := fun a b : Nat => decide (a ≤ b)) (fun a b c h1 h2 => by
      have h1' := of_decide_eq_true h1
      have h2' := of_decide_eq_true h2
      exact decide_eq_true (Nat.le_trans h1' h2')) (fun a b => by
      rcases Nat.le_total a b with z | z
      · simp [z]
      · simp [z]) (met [] l)
  have h2 : (ups l).Pairwise (· ≠ ·) := ups_nodup l
  refine List.Pairwise.imp₂ (fun x y a b => ?_) h1 h2
  have a' := of_decide_eq_true a
  omega
theorem up_eq : ∀ {l m : List Nat}, l.Pairwise (· < ·) → m.Pairwise (· < ·) → (∀ c, c ∈ l ↔ c ∈ m) → l = m
  | [], [], _, _, _ => rfl
  | [], y :: m, _, _, h => by have := (h y).mpr List.mem_cons_self; simp at this
  | x :: l, [], _, _, h => by have := (h x).mp List.mem_cons_self; simp at this
  | x :: l, y :: m, h1, h2, h => by
    obtain ⟨a1, a2⟩ := List.pairwise_cons.mp h1
    obtain ⟨b1, b2⟩ := List.pairwise_cons.mp h2
    have e : x = y := by
      rcases List.mem_cons.mp ((h x).mp List.mem_cons_self) with z | z
      · exact z
      · rcases List.mem_cons.mp ((h y).mpr List.mem_cons_self) with u | u
        · exact u.symm
        · have := a1 y u
          have := b1 x z
          omega
    subst e
    rw [up_eq a2 b2 fun c => ?_]
    constructor
    · intro q
      rcases List.mem_cons.mp ((h c).mp (List.mem_cons_of_mem _ q)) with z | z
      · subst z
        exact absurd (a1 _ q) (Nat.lt_irrefl _)
      · exact z
    · intro q
      rcases List.mem_cons.mp ((h c).mpr (List.mem_cons_of_mem _ q)) with z | z
      · subst z
        exact absurd (b1 _ q) (Nat.lt_irrefl _)
      · exact z
theorem ups_of {l ns : List Nat} (h : ns.Pairwise (· < ·)) (p : ns.Perm (met [] l)) : ns = ups l :=
  up_eq h (ups_up l) fun c => by rw [p.mem_iff, ups_mem, met_mem]; simp

/-- one-sign texts as values -/
abbrev ones (l : List Nat) : List V := l.map fun c => V.str (one c)
theorem ones_map (l : List Nat) : ones l = (l.map one).map V.str := by rw [List.map_map]; rfl

/-- the set of texts at a -/
def TO (w : World) (a : Addr) (acc : List Nat) : HO := .ext fun h => At w h a (acc.map one)
section
variable {X : Cx}
theorem to_new {w : World} {P : Program} {H : Hp} {h : Heap} {a : Addr} {acc : List Nat} (R : At w h a (acc.map one)) : ObjOk P w H h a (TO w a acc) :=
  ⟨R, let ⟨o, _, _, _, ho, _⟩ := R; ⟨o, ho⟩, fun _ _ p k => At.stays p k⟩
/-- set(s), s a text of few different signs -/
def rSetTx (w : World) : List V → Hp → VK → Prop := fun xs H Q => ∃ z : Str, xs = [.str z] ∧ (met [] z.cps.toList).length < 64 ∧ ∀ p, H p = none → Q (.ref p) (upd H p (TO w p (met [] z.cps.toList)))
theorem cr_setTx (hc : X.calm = true) : CallR X (.type "set") (rSetTx X.w) := by
  intro pins s σ H xs us Q I r h
  obtain ⟨z, rfl, hf, q⟩ := h
  obtain ⟨t, rfl⟩ : ∃ t, us = [Value.str z t] := by
    cases r with
    | cons a b =>
      cases b
      obtain ⟨t, rfl⟩ := a
      exact ⟨t, rfl⟩
  have hb : (met [] z.cps.toList).length + 1 < scanBound := by
    have : (64 : Nat) + 1 < scanBound := by decide
    omega
  refine call_set_text (P := X.prog) (w := X.w) (I.ok.hd hc) hb fun h' tk R k => ?_
  exact ⟨.ref _, upd H s.heap.objs.size (TO X.w s.heap.objs.size (met [] z.cps.toList)), I.laid (t' := tk) k (Nat.le_refl _) (to_new R), rfl, q _ (I.hok.fresh (Nat.le_refl _))⟩
/-- sorted(a set of texts) -/
def rSortTx (w : World) : List V → Hp → VK → Prop := fun xs H Q => ∃ (a : Addr) (l : List Nat), xs = [.ref a] ∧ H a = some (TO w a (met [] l)) ∧ (met [] l).length < 64 ∧ ∀ p, H p = none → Q (.ref p) (upd H p (.lst (ones (ups l))))
theorem cr_sortTx (hc : X.calm = true) : CallR X (.builtin "sorted") (rSortTx X.w) := by
  intro pins s σ H vs us Q I r h
  obtain ⟨a, l, rfl, ha, h64, q⟩ := h
  have R : At X.w s.heap a ((met [] l).map one) := (I.hok a _ ha).1
  rw [Vals.ref1 r]
  refine sorted_text (P := X.prog) R (met_nodup l [] List.nodup_nil) (I.ok.hd hc) h64 fun z p out c ns k g o hp hg hS up pm => ?_
  obtain rfl := ups_of up pm
  have hlen : (ones (ups l)).length ≤ sizeLine := by
    rw [List.length_map, pm.length_eq, sizeLine_eq]
    omega
  have hn : H p = none := I.hok.fresh hp
  have hv : Vals (ones (ups l)) out.toList := by rw [ones_map]; exact vals_of_strs hS
  have J : Inv X pins σ (upd H p (.lst (ones (ups l)))) { s with heap := z.heap, gens := z.gens, drawn := z.drawn, toks := z.toks } :=
    I.call (ch := []) (Un.laid k hp hn) (I.hok.laid k hp ⟨hlen, out.toList, c, hv, hg⟩) (by rw [g]; exact I.bare) (fun _ y => nomatch y)
  have e : z = { s with heap := z.heap, gens := z.gens, drawn := z.drawn, toks := z.toks } := by
    cases z
    cases s
    cases o
    rfl
  rw [e]
  exact ⟨.ref p, _, J, rfl, q p hn⟩
/-- list(s), s a text -/
def rListTx : List V → Hp → VK → Prop := fun xs H Q => ∃ z : Str, xs = [.str z] ∧ z.length ≤ sizeLine ∧ ∀ p, H p = none → Q (.ref p) (upd H p (.lst (ones z.cps.toList)))
theorem signs_vals {z : Str} {acc : Array Value} (h : ItemsOf (SignAt z) acc z.cps.size) : Vals (ones z.cps.toList) acc.toList := by
  have all : ∀ (l : List Nat) (us : List Value), us.length = l.length → (∀ (j : Nat) (v : Value), us[j]? = some v → ∃ (c : Nat) (u : Tok), l[j]? = some c ∧ v = Value.str (one c) u) → Vals (ones l) us := by
    intro l
    induction l with
    | nil =>
      intro us hl _
      cases us with
      | nil => exact .nil
      | cons u us => simp at hl
    | cons c l ih =>
      intro us hl hg
      cases us with
      | nil => simp at hl
      | cons u us =>
        obtain ⟨d, t, h1, h2⟩ := hg 0 u rfl
        have e : c = d := Option.some.inj h1
        subst e
        refine .cons ⟨t, h2⟩ (ih us (by simpa using hl) fun j v hv => ?_)
        exact hg (j + 1) v hv
  refine all _ _ (by rw [Array.length_toList, Array.length_toList]; exact h.1) fun j v hv => ?_
  rw [Array.getElem?_toList] at hv
  obtain ⟨c, u, h1, h2⟩ := h.2 j v hv
  exact ⟨c, u, by rw [Array.getElem?_toList]; exact h1, h2⟩
theorem cr_listTx (hc : X.calm = true) : CallR X (.type "list") rListTx := by
  intro pins s σ H xs us Q I r h
  obtain ⟨z, rfl, hl, q⟩ := h
  cases r with
  | cons a b =>
    cases b
    obtain ⟨t, rfl⟩ := a
    refine call_list_str (I.ok.hd hc) z t (hn := hl) fun h' tk acc c k hg hi => ?_
    have hz : (ones z.cps.toList).length ≤ sizeLine := by
      rw [List.length_map, Array.length_toList]
      exact hl
    exact ⟨.ref _, upd H s.heap.objs.size (.lst (ones z.cps.toList)), I.laid (t' := tk) k (Nat.le_refl _) ⟨hz, acc.toList, c, signs_vals hi, by simpa using hg⟩, rfl, q _ (I.hok.fresh (Nat.le_refl _))⟩
/-- a ** b, the result below 2 ^ 27 bits -/
theorem op_powW : OpR X (binaryOp .Pow) (rI (fun i j => 0 ≤ j ∧ (Builtin.Int.intBits i : Int) * j ≤ 2 ^ 27) fun i j => .int (i ^ j.toNat)) := opI fun _ _ _ _ _ _ _ hc q => pow_int hc.1 hc.2 q
end
end Tx

set_option Elab.async false
set_option linter.all false
set_option maxRecDepth 100000
set_option maxHeartbeats 3200000
/-! what the judges are worth, over plain data -/
namespace Tm
open PySem PySem.Spec PySem.Builtin PySem.Builtin.Str PyProof.Rows L2 Tx

abbrev cds (z : Str) : List Nat := z.cps.toList
theorem cds_ext {y z : Str} (h : cds y = cds z) : y = z := by
  cases y with
  | mk a =>
    cases z with
    | mk b =>
      have e : a = b := Array.toList_inj.mp h
      rw [e]
theorem cds_len (z : Str) : (cds z).length = z.length := by
  show z.cps.toList.length = z.cps.size
  rw [Array.length_toList]
/-- every sign of z is one of sg -/
def only (z sg : Str) : Bool := (cds z).all fun c => decide (c ∈ cds sg)
theorem only_iff {z sg : Str} : only z sg = true ↔ ∀ c ∈ cds z, c ∈ cds sg := by
  unfold only
  rw [List.all_eq_true]
  exact ⟨fun h c hc => of_decide_eq_true (h c hc), fun h c hc => decide_eq_true (h c hc)⟩
theorem getD_mem {z : Str} {k : Nat} (h : k < z.length) : z.cps.getD k 0 ∈ cds z := by
  have h' : k < z.cps.size := h
  have e : z.cps.getD k 0 = z.cps[k] := by simp [Array.getD, h']
  rw [e]
  exact Array.getElem_mem_toList h'
theorem mem_getD {z : Str} {c : Nat} (h : c ∈ cds z) : ∃ k, k < z.length ∧ z.cps.getD k 0 = c := by
  obtain ⟨k, hk, e⟩ := List.getElem_of_mem h
  have hk' : k < z.cps.size := by rw [Array.length_toList] at hk; exact hk
  refine ⟨k, hk', ?_⟩
  rw [← e]
  simp [Array.getD, hk']
theorem goes_iff {sg : Str} {c : Nat} : sg.cps.contains c = true ↔ c ∈ cds sg := by
  rw [Array.contains_iff_mem, Array.mem_toList_iff]
/-- strip with all the signs of sg leaves nothing exactly if there is no other sign -/
theorem strip_only (z sg : Str) : decide (Txt.stripChars z sg = Str.empty) = only z sg := by
  unfold Txt.stripChars
  rw [stripBy_eq]
  obtain ⟨a1, a2, a3⟩ := lo_facts sg.cps.contains z
  obtain ⟨b1, b2, b3, b4⟩ := hi_facts sg.cps.contains z _ a1
  generalize stripLo sg.cps.contains true z = lo at a1 a2 a3 b1 b2 b3 b4 ⊢
  generalize stripHi sg.cps.contains true z lo = hi at b1 b2 b3 b4 ⊢
  have key : strSub z lo hi = Str.empty ↔ lo = hi := by
    constructor
    · intro h
      have e : (z.cps.extract lo hi).size = 0 := by
        have := congrArg (fun y : Str => y.cps.size) h
        exact this
      rw [Array.size_extract] at e
      have hb : hi ≤ z.cps.size := b2
      omega
    · intro h
      subst h
      refine cds_ext ?_
      show (z.cps.extract lo lo).toList = (Str.empty).cps.toList
      rw [Array.extract_empty_of_stop_le_start (Nat.le_refl _)]
      rfl
  by_cases h : only z sg = true
  · rw [h]
    refine decide_eq_true (key.mpr ?_)
    have all := only_iff.mp h
    rcases Nat.lt_or_ge lo z.length with hl | hl
    · exfalso
      rcases a3 with e | e
      · omega
      · have := goes_iff.mpr (all _ (getD_mem hl))
        rw [e] at this
        cases this
    · have c2 : hi ≤ z.length := b2
      omega
  · have h' : only z sg = false := by simpa using h
    rw [h']
    refine decide_eq_false fun q => h (only_iff.mpr fun c hc => ?_)
    have e := key.mp q
    obtain ⟨k, hk, rfl⟩ := mem_getD hc
    rcases Nat.lt_or_ge k lo with u | u
    · exact goes_iff.mp (a2 k u)
    · exact goes_iff.mp (b3 k (by omega) hk)

/-! ### the judges -/
def big : Int := 10 ^ 200
def isInt : PyData → Bool
  | .int n => decide (n.natAbs < 10 ^ 200)
  | _ => false
def has (sg : Str) (most : Nat) : PyData → Bool
  | .str z => decide (z.length ≤ most) && only z sg
  | _ => false
def alpha : Str := "abcdefghijklmnopqrstuvwxyz"
def name : PyData → Bool
  | .str z => decide (z.length ≤ 8) && only z alpha && decide (z ≠ Str.empty)
  | _ => false
def rise (z : Str) : Bool := decide (cds z = ups (cds z))
def letters : PyData → Bool
  | .str z => decide (z.length ≤ 3) && only z alpha && decide (z ≠ Str.empty) && rise z
  | _ => false
def prime : PyData → Bool
  | .int n => decide (n = 2 ∨ n = 3 ∨ n = 5 ∨ n = 7)
  | _ => false
def lows (z : Str) : Bool := (cds z).all fun c => decide (97 ≤ c) && decide (c ≤ 122)
def small (most : Nat) : PyData → Bool
  | .str z => decide (1 ≤ z.length) && decide (z.length ≤ most) && lows z
  | _ => false
theorem alpha_iff (c : Nat) : c ∈ cds alpha ↔ 97 ≤ c ∧ c ≤ 122 := by
  have e : cds alpha = (List.range 26).map (· + 97) := by decide +kernel
  rw [e, List.mem_map]
  constructor
  · rintro ⟨k, hk, rfl⟩
    have := List.mem_range.mp hk
    omega
  · rintro ⟨h1, h2⟩
    exact ⟨c - 97, List.mem_range.mpr (by omega), by omega⟩
theorem only_alpha (z : Str) : only z alpha = lows z := by
  unfold only lows
  congr 1
  funext c
  by_cases h : c ∈ cds alpha
  · have := (alpha_iff c).mp h
    simp [h, this.1, this.2]
  · have h2 : ¬ (97 ≤ c ∧ c ≤ 122) := fun q => h ((alpha_iff c).mpr q)
    rw [decide_eq_false h, ← Bool.decide_and, decide_eq_false h2]
theorem nonempty_iff (z : Str) : z ≠ Str.empty ↔ 1 ≤ z.length := by
  constructor
  · intro h
    rcases Nat.eq_zero_or_pos z.length with e | e
    · exfalso
      apply h
      apply cds_ext
      have : (cds z).length = 0 := by rw [cds_len]; exact e
      rw [List.length_eq_zero_iff.mp this]
      rfl
    · exact e
  · intro h e
    subst e
    exact absurd h (by decide)
theorem name_small (d : PyData) : name d = small 8 d := by
  cases d with
  | str z =>
    show (decide (z.length ≤ 8) && only z alpha && decide (z ≠ Str.empty)) = (decide (1 ≤ z.length) && decide (z.length ≤ 8) && lows z)
    rw [only_alpha, decide_eq_decide.mpr (nonempty_iff z)]
    cases decide (z.length ≤ 8) <;> cases lows z <;> cases decide (1 ≤ z.length) <;> rfl
  | _ => rfl
theorem letters_small (d : PyData) : letters d = (small 3 d && (match d with | .str z => rise z | _ => false)) := by
  cases d with
  | str z =>
    show (decide (z.length ≤ 3) && only z alpha && decide (z ≠ Str.empty) && rise z) = (decide (1 ≤ z.length) && decide (z.length ≤ 3) && lows z && rise z)
    rw [only_alpha, decide_eq_decide.mpr (nonempty_iff z)]
    cases decide (z.length ≤ 3) <;> cases lows z <;> cases decide (1 ≤ z.length) <;> cases rise z <;> rfl
  | _ => rfl

/-! ### how numbers and texts are shown -/
theorem shown_int {n k : Int} (h : (toString n : String) = toString k) : n = k := by
  have e := congrArg String.toInt? h
  simpa using e

/-- a text that is judged: short, plain signs, few unlike ones -/
structure Fine (z : Str) : Prop where
  long : z.length ≤ 4001
  few : (met [] (cds z)).length < 64
  plain : ∀ c ∈ cds z, c < 128
/-- the four texts of the primes -/
abbrev four : List V := [.str "2", .str "3", .str "5", .str "7"]
/-- data that is judged -/
def Ok : PyData → Prop
  | .int n => n.natAbs.log2 < 1920
  | .str z => Fine z
  | d => d.showable = true ∧ d.depth < 60 ∧ d.shown.length ≤ sizeLine ∧ inV (.str d.shown) four = false
end Tm

set_option Elab.async false
set_option linter.all false
set_option maxRecDepth 100000
set_option maxHeartbeats 3200000
namespace K4
open PySem L2 Tx Tg Tm
def top (i : Nat) : Stmt := PySem.Challenge.pw_whatcounts_k03_whole_words_told_and_canc.main.body.getD i (.Pass ⟨0, 0, 0, 0⟩)
abbrev sInt : Stmt := top 13
abbrev sLetters : Stmt := top 14
abbrev sSigned : Stmt := top 15
abbrev sCheck : Stmt := top 16
abbrev sHas : Stmt := top 17
abbrev sCheckSigned : Stmt := top 19
abbrev sMost : Stmt := top 20
abbrev sJoin : Stmt := top 24
abbrev sUndo : Stmt := top 25
abbrev sOfSigns : Stmt := top 26
abbrev sSignsOf : Stmt := top 27
abbrev sIsRow : Stmt := top 31
abbrev sIsRun : Stmt := top 32
abbrev sCup : Stmt := top 35
abbrev sBit : Stmt := top 36
abbrev sPick : Stmt := top 37
abbrev sSigns : Stmt := top 38
abbrev sMixed : Stmt := top 39
abbrev sPower : Stmt := top 40
abbrev sPut : Stmt := top 41
abbrev sRow : Stmt := top 42
abbrev sRowOf : Stmt := top 43
abbrev sCleared : Stmt := top 44
abbrev sInParts : Stmt := top 45
abbrev sTextRight : Stmt := top 46
abbrev sRowRight : Stmt := top 47
abbrev sLaw : Stmt := top 48
/-! ### values -/
inductive Val (H : Hp) : V → PyData → Prop
  | non : Val H .non .none
  | bl (b : Bool) : Val H (.bl b) (.bool b)
  | int (n : Int) : Val H (.int n) (.int n)
  | str (z : Str) : Val H (.str z) (.str z)
  | lst {a : Addr} (l : List Str) (h : H a = some (.lst (l.map V.str))) : Val H (.ref a) (.list (l.map PyData.str))
  | tup {a : Addr} (l : List Str) (h : H a = some (.tup (l.map V.str))) : Val H (.ref a) (.tuple (l.map PyData.str))
  | tupI {a : Addr} (l : List Int) (h : H a = some (.tup (l.map V.int))) : Val H (.ref a) (.tuple (l.map PyData.int))
  | dct {a : Addr} (kvs : List (Str × Int)) (h : H a = some (.dK (kvs.map fun p => (Sum.inr p.1, V.int p.2)))) : Val H (.ref a) (.dict (kvs.map fun p => (.str p.1, .int p.2)))
theorem Val.same {H H' : Hp} {v : V} {d : PyData} (s : Same H H') (h : Val H v d) : Val H' v d := by
  cases h with
  | non => exact .non
  | bl b => exact .bl b
  | int n => exact .int n
  | str z => exact .str z
  | lst l h => exact .lst l (s _ _ h)
  | tup l h => exact .tup l (s _ _ h)
  | tupI l h => exact .tupI l (s _ _ h)
  | dct l h => exact .dct l (s _ _ h)
def intTy : PyData → Bool
  | .int _ => true
  | .bool _ => true
  | _ => false
def strTy : PyData → Bool
  | .str _ => true
  | _ => false
def blTy : PyData → Bool
  | .bool _ => true
  | _ => false
theorem k_NoneType_int : kitB "NoneType" "int" = some false := by decide +kernel
theorem k_NoneType_str : kitB "NoneType" "str" = some false := by decide +kernel
theorem k_NoneType_bool : kitB "NoneType" "bool" = some false := by decide +kernel
theorem k_bool_int : kitB "bool" "int" = some true := by decide +kernel
theorem k_bool_str : kitB "bool" "str" = some false := by decide +kernel
theorem k_bool_bool : kitB "bool" "bool" = some true := by decide +kernel
theorem k_int_int : kitB "int" "int" = some true := by decide +kernel
theorem k_int_str : kitB "int" "str" = some false := by decide +kernel
theorem k_int_bool : kitB "int" "bool" = some false := by decide +kernel
theorem k_str_int : kitB "str" "int" = some false := by decide +kernel
theorem k_str_str : kitB "str" "str" = some true := by decide +kernel
theorem k_str_bool : kitB "str" "bool" = some false := by decide +kernel
theorem k_list_int : kitB "list" "int" = some false := by decide +kernel
theorem k_list_str : kitB "list" "str" = some false := by decide +kernel
theorem k_list_bool : kitB "list" "bool" = some false := by decide +kernel
theorem k_tuple_int : kitB "tuple" "int" = some false := by decide +kernel
theorem k_tuple_str : kitB "tuple" "str" = some false := by decide +kernel
theorem k_tuple_bool : kitB "tuple" "bool" = some false := by decide +kernel
theorem k_dict_int : kitB "dict" "int" = some false := by decide +kernel
theorem k_dict_str : kitB "dict" "str" = some false := by decide +kernel
theorem k_dict_bool : kitB "dict" "bool" = some false := by decide +kernel
theorem Val.ty {K : PySem.W.Frag} {H : Hp} {v : V} {d : PyData} (h : Val H v d) : ∃ t, TyX K H v t ∧ PySem.W.kitOne K t (.type "int") = some (intTy d) ∧ PySem.W.kitOne K t (.type "str") = some (strTy d) ∧ PySem.W.kitOne K t (.type "bool") = some (blTy d) := by
  cases h with
  | non => exact ⟨_, .base .non, kit_ty k_NoneType_int, kit_ty k_NoneType_str, kit_ty k_NoneType_bool⟩
  | bl b => exact ⟨_, .base (.bl b), kit_ty k_bool_int, kit_ty k_bool_str, kit_ty k_bool_bool⟩
  | int n => exact ⟨_, .base (.int n), kit_ty k_int_int, kit_ty k_int_str, kit_ty k_int_bool⟩
  | str z => exact ⟨_, .base (.str z), kit_ty k_str_int, kit_ty k_str_str, kit_ty k_str_bool⟩
  | lst l h => exact ⟨_, .base (.lst h), kit_ty k_list_int, kit_ty k_list_str, kit_ty k_list_bool⟩
  | tup l h => exact ⟨_, .base (.tup h), kit_ty k_tuple_int, kit_ty k_tuple_str, kit_ty k_tuple_bool⟩
  | tupI l h => exact ⟨_, .base (.tup h), kit_ty k_tuple_int, kit_ty k_tuple_str, kit_ty k_tuple_bool⟩
  | dct l h => exact ⟨_, .base (.dK h), kit_ty k_dict_int, kit_ty k_dict_str, kit_ty k_dict_bool⟩

/-- what the walk asks of the module's names -/
structure Txt (K : PySem.W.Frag) (mg : Str → Option Value) : Prop where
  isi : mg "isinstance" = none
  int : mg "int" = none
  str : mg "str" = none
  bool : mg "bool" = none
  abs : mg "abs" = none
  len : mg "len" = none
  list : mg "list" = none
  set : mg "set" = none
  sorted : mg "sorted" = none
  repr : mg "repr" = none
  range : mg "range" = none
  max : mg "max" = none
  min : mg "min" = none
  all : mg "all" = none
  sum : mg "sum" = none
  tuple : mg "tuple" = none
  long : ∃ t, mg "LEAST_TOO_LONG" = some (.int (10 ^ 200) t)
  alpha : ∃ t, mg "ALPHABET" = some (.str alpha t)
  mLet : ∃ t, mg "MAX_LETTERS" = some (.int 3 t)
  mText : ∃ t, mg "MAX_TEXT" = some (.int 4000 t)
  mRuns : ∃ t, mg "MAX_RUNS" = some (.int 200 t)
  mPow : ∃ t, mg "MAX_POWER" = some (.int 400 t)

theorem fine_line {z : Str} (h : Fine z) : z.length ≤ sizeLine := Nat.le_trans h.long (by decide)

/-! ### the program's judges -/
def spHas : Sp := fun vs H Q _ => ∃ (v : V) (d : PyData) (sg : Str) (m : Nat), vs = [v, .str sg, .int m] ∧ Val H v d ∧ Ok d ∧ Q (.bl (has sg m d)) H
section
variable {P : Program} {w : World} {K : PySem.W.Frag} {mg : Str → Option Value} {base : Heap}
theorem scHas : FnScope ["value", "signs", "most"] ["value", "signs", "most"] (defScope sHas) := ⟨rfl, rfl, rfl, by decide +kernel, rfl, by decide +kernel, by decide +kernel⟩
theorem ok_has {f : Addr} {fd : FuncData} (F : Fun K "has_only" "has_only" sHas f fd) (T : Txt K mg) : FnOk P w K mg base CX0 1 f fd ["value", "signs", "most"] spHas := by
  refine F.ok scHas (fun vs H Q E h => ?_) (fun cdv A outer s H vs Q E hr h => ?_)
  · obtain ⟨v, d, sg, m, rfl, _⟩ := h
    rfl
  · obtain ⟨v, d, sg, m, rfl, hv, hd, q⟩ := h
    refine ⟨_, pss_one (ps_ret (pe_and (pe_callB call_isi (by rfl) T.isi (by decide +kernel) (pa_cons (pv 0) (pa_cons (pe_bltn (v := .ty "str") (by rfl) T.str (by decide +kernel) rfl) pa_nil)))
      (pe_and (pe_cmpR op_le (pe_callB call_len_str (by rfl) T.len PySem.boot_len (pa_cons (pv 0) pa_nil)) (pv 2) (nomark _))
      (pe_one (pe_cmpR op_eq (pe_bm PySem.F.plainAttrs_str PySem.F.slot_str_strip PySem.F.type_str_strip mt_stripChars (pv 0) (pa_cons (pv 1) pa_nil)) pe_str (nomark _)))))), ?_⟩
    obtain ⟨t, ty, _, k, _⟩ := Val.ty (K := K) hv
    refine ⟨_, rfl, _, _, _, _, _, rfl, .ty "str", ty, k, strTy d, rfl, ?_⟩
    cases hv with
    | str z =>
      have hz := fine_line (show Fine z from hd)
      refine iteT ?_
      refine ⟨_, rfl, z, rfl, hz, _, rfl, _, _, rfl, rfl, _, rfl, ?_⟩
      have e1 : decide ((z.length : Int) ≤ (m : Int)) = decide (z.length ≤ m) := decide_eq_decide.mpr (by omega)
      rw [e1]
      have e0 : has sg m (.str z) = (decide (z.length ≤ m) && only z sg) := rfl
      rw [e0] at q
      by_cases hm : z.length ≤ m
      · rw [decide_eq_true hm] at q ⊢
        refine iteT ?_
        refine ⟨_, rfl, rfl, _, rfl, z, sg, rfl, rfl, hz, rfl, ?_⟩
        have e2 : decide (V.str (Txt.stripChars z sg) = V.str (Str.ofString "")) = only z sg := by
          rw [← strip_only]
          exact decide_eq_decide.mpr ⟨fun e => by injection e, fun e => by rw [e]; rfl⟩
        rw [e2]
        exact q
      · rw [decide_eq_false hm] at q ⊢
        exact iteF q
    | _ => exact iteF q

def spInt : Sp := fun vs H Q _ => ∃ (v : V) (d : PyData), vs = [v] ∧ Val H v d ∧ Q (.bl (isInt d)) H
theorem scInt : FnScope ["value"] ["value"] (defScope sInt) := ⟨rfl, rfl, rfl, by decide +kernel, rfl, by decide +kernel, by decide +kernel⟩
theorem isInt_abs (n : Int) : decide ((if n < 0 then -n else n) < 10 ^ 200) = isInt (.int n) := by
  show _ = decide (n.natAbs < 10 ^ 200)
  have e : ((10 ^ 200 : Nat) : Int) = 10 ^ 200 := by norm_cast
  rw [← e]
  generalize (10 ^ 200 : Nat) = M
  refine decide_eq_decide.mpr ?_
  split <;> omega
theorem ok_int {f : Addr} {fd : FuncData} (F : Fun K "is_integer" "is_integer" sInt f fd) (T : Txt K mg) : FnOk P w K mg base CX0 1 f fd ["value"] spInt := by
  refine F.ok scInt (fun vs H Q E h => ?_) (fun cdv A outer s H vs Q E hr h => ?_)
  · obtain ⟨v, d, rfl, _⟩ := h
    rfl
  · obtain ⟨v, d, rfl, hv, q⟩ := h
    obtain ⟨tl, hl⟩ := T.long
    refine ⟨_, pss_one (ps_ret (pe_and (pe_callB call_isi (by rfl) T.isi (by decide +kernel) (pa_cons (pv 0) (pa_cons (pe_bltn (v := .ty "int") (by rfl) T.int (by decide +kernel) rfl) pa_nil)))
      (pe_and (pe_not (pe_callB call_isi (by rfl) T.isi (by decide +kernel) (pa_cons (pv 0) (pa_cons (pe_bltn (v := .ty "bool") (by rfl) T.bool (by decide +kernel) rfl) pa_nil))))
      (pe_one (pe_cmpR op_lt (pe_callB call_abs (by rfl) T.abs (by decide +kernel) (pa_cons (pv 0) pa_nil)) (pe_glob (v := .int (10 ^ 200)) rfl hl ⟨_, rfl⟩) (nomark _)))))), ?_⟩
    obtain ⟨t, ty, k1, _, k3⟩ := Val.ty (K := K) hv
    refine ⟨_, rfl, _, _, _, _, _, rfl, .ty "int", ty, k1, intTy d, rfl, ?_⟩
    cases hv with
    | int n =>
      refine iteT ⟨_, rfl, _, _, _, _, _, rfl, .ty "bool", ty, k3, _, rfl, _, rfl, iteT ?_⟩
      refine ⟨_, rfl, n, rfl, _, _, rfl, rfl, ?_⟩
      show Q (.bl (decide ((if n < 0 then -n else n) < 10 ^ 200))) H
      rw [isInt_abs]
      exact q
    | bl b => exact iteT ⟨_, rfl, _, _, _, _, _, rfl, .ty "bool", ty, k3, _, rfl, _, rfl, iteF q⟩
    | _ => exact iteF q

end
/-- a def of the text, found under its name -/
structure Df (K : PySem.W.Frag) (mg : Str → Option Value) (x : Str) (st : Stmt) (ps : List Str) (f : Addr) (fd : FuncData) : Prop where
  F : Fun K x x st f fd
  m : mg x = some (.ref f)
  b : Binds K fd ps []

/-! ### rows of one-sign texts as data -/
abbrev onesD (l : List Nat) : List PyData := l.map fun c => PyData.str (one c)
theorem all_ones (K : PySem.W.Frag) (H : Hp) : ∀ l : List Nat, DpAll K H (ones l) (onesD l)
  | [] => .nil
  | c :: l => .cons (.str _) (all_ones K H l)
theorem eqv_ones : ∀ l m : List Nat, PyData.eqvAll (onesD l) (onesD m) = decide (l = m)
  | [], [] => rfl
  | [], _ :: _ => rfl
  | _ :: _, [] => rfl
  | c :: l, d :: m => by
    show ((one c == one d) && PyData.eqvAll (onesD l) (onesD m)) = _
    rw [eqv_ones l m]
    by_cases h : c = d
    · subst h
      simp
    · have e : (one c == one d) = false := beq_eq_false_iff_ne.mpr fun q => h (one_inj q)
      rw [e]
      simp [h]
theorem lay_all (l : List Nat) (h : ∀ c ∈ l, c < 128) : PyData.canLayAll0 (onesD l) = true := by
  induction l with
  | nil => rfl
  | cons c l ih =>
    have hc := h c List.mem_cons_self
    have e1 : PyData.canLay0 (.str (one c)) = true := by
      show (one c).cps.all (· < 0x110000) = true
      simp
      omega
    show (PyData.canLay0 (.str (one c)) && PyData.canLayAll0 (onesD l)) = true
    rw [ih fun d hd => h d (List.mem_cons_of_mem _ hd), e1]
    rfl
theorem deep_all (l : List Nat) : PyData.depthAll (onesD l) ≤ 1 := by
  induction l with
  | nil => decide
  | cons c l ih =>
    show max _ (PyData.depthAll (onesD l)) ≤ 1
    exact Nat.max_le.mpr ⟨(by show 0 ≤ 1; decide), ih⟩
theorem shaped_ones (l : List Nat) (h : ∀ c ∈ l, c < 128) : SeqAt.shaped (.list (onesD l)) = true := by
  unfold SeqAt.shaped
  rw [Bool.and_eq_true]
  refine ⟨lay_all l h, decide_eq_true ?_⟩
  show PyData.depthAll (onesD l) + 1 ≤ 64
  have := deep_all l
  omega

section
variable {P : Program} {w : World} {K : PySem.W.Frag} {mg : Str → Option Value} {base : Heap}
theorem scLetters : FnScope ["value"] ["value"] (defScope sLetters) := ⟨rfl, rfl, rfl, by decide +kernel, rfl, by decide +kernel, by decide +kernel⟩
def spLetters : Sp := fun vs H Q _ => ∃ (v : V) (d : PyData), vs = [v] ∧ Val H v d ∧ Ok d ∧ ∀ H', Same H H' → Q (.bl (letters d)) H'
theorem same_upd {H : Hp} {p : Addr} {o : HO} (h : H p = none) : Same H (upd H p o) := fun b u e => by
  rw [upd_ne (ne_of_none e h)]
  exact e
theorem ok_letters {f fH : Addr} {fd fdH : FuncData} (F : Fun K "is_letters" "is_letters" sLetters f fd) (T : Txt K mg) (DH : Df K mg "has_only" sHas ["value", "signs", "most"] fH fdH) :
    FnOk P w K mg base CX0 2 f fd ["value"] spLetters := by
  have G := ok_has (P := P) (w := w) (base := base) DH.F T
  refine F.ok scLetters (fun vs H Q E h => ?_) (fun cdv A outer s H vs Q E hr h => ?_)
  · obtain ⟨v, d, rfl, _⟩ := h
    rfl
  · obtain ⟨v, d, rfl, hv, hd, q⟩ := h
    obtain ⟨ta, ha⟩ := T.alpha
    obtain ⟨tn, hn⟩ := T.mLet
    refine ⟨_, pss_one (ps_ret (pe_and (pe_call G hr (by rfl) DH.m DH.F.kp DH.b .nil pass0 (pa_cons (pv 0) (pa_cons (pe_glob (v := .str alpha) rfl ha ⟨_, rfl⟩) (pa_cons (pe_glob (v := .int 3) rfl hn ⟨_, rfl⟩) pa_nil))))
      (pe_and (pe_cmpR op_ne (pv 0) pe_str (nomark _))
      (pe_one (pe_cmpR (op_eqD hr.units) (pe_callTy (cr_listTx rfl) (by rfl) T.list (by decide +kernel) (pa_cons (pv 0) pa_nil))
        (pe_callB (cr_sortTx rfl) (by rfl) T.sorted (by decide +kernel) (pa_cons (pe_callTy (cr_setTx rfl) (by rfl) T.set (by decide +kernel) (pa_cons (pv 0) pa_nil)) pa_nil)) (nomark _)))))), ?_⟩
    refine ⟨_, rfl, v, d, alpha, 3, rfl, hv, hd, _, rfl, ?_⟩
    cases hv with
    | str z =>
      have hz : Fine z := hd
      have e0 : letters (.str z) = (has alpha 3 (.str z) && decide (z ≠ Str.empty) && rise z) := rfl
      rw [e0] at q
      cases hb : has alpha 3 (.str z) with
      | true =>
        rw [hb] at q
        refine iteT ⟨_, rfl, rfl, ?_⟩
        have e : (!decide (V.str z = V.str (Str.ofString ""))) = decide (z ≠ Str.empty) := by
          rw [← decide_not]
          exact decide_eq_decide.mpr ⟨fun h e => h (by rw [e]; rfl), fun h e => h (by injection e)⟩
        refine ⟨_, rfl, ?_⟩
        rw [e]
        by_cases hne : z ≠ Str.empty
        · rw [decide_eq_true hne] at q ⊢
          refine iteT ?_
          refine ⟨_, rfl, z, rfl, fine_line hz, fun p1 n1 => ?_⟩
          refine ⟨_, rfl, z, rfl, hz.few, fun p2 n2 => ?_⟩
          refine ⟨p2, cds z, rfl, upd_same, hz.few, fun p3 n3 => ?_⟩
          have s1 : Same H (upd H p1 (.lst (ones (cds z)))) := same_upd n1
          have s2 := same_upd (o := TO w p2 (met [] (cds z))) n2
          have s3 := same_upd (o := .lst (ones (ups (cds z)))) n3
          have h1 := s3 _ _ (s2 _ _ (upd_same (H := H) (a := p1) (o := .lst (ones (cds z)))))
          refine ⟨.list (onesD (cds z)), .list (onesD (ups (cds z))), .lst (SqL.of h1) (all_ones _ _ _), .lst (SqL.of upd_same) (all_ones _ _ _), shaped_ones _ hz.plain, shaped_ones _ (fun c hc => hz.plain c ((ups_mem _ _).mp hc)), ?_⟩
          have e2 : PyData.eqv (.list (onesD (cds z))) (.list (onesD (ups (cds z)))) = rise z := eqv_ones _ _
          rw [e2]
          exact q _ ((s1.trans s2).trans s3)
        · have hne' : decide (z ≠ Str.empty) = false := decide_eq_false hne
          rw [hne'] at q ⊢
          exact iteF (q _ (Same.refl H))
      | false =>
        rw [hb] at q
        exact iteF (q _ (Same.refl H))
    | _ => exact iteF (q _ (Same.refl H))

/-! ### the law's drawer -/
/-- a drawer: three ints -/
def Cup (H : Hp) (c : Addr) : Prop := ∃ a0 a1 a2 : Int, H c = some (.lst [.int a0, .int a1, .int a2])
/-- all but what stands at c stays -/
def But (c : Addr) (H H' : Hp) : Prop := ∀ b o, b ≠ c → H b = some o → H' b = some o
theorem But.refl (c : Addr) (H : Hp) : But c H H := fun _ _ _ e => e
theorem But.trans {c : Addr} {H H1 H2 : Hp} (a : But c H H1) (b : But c H1 H2) : But c H H2 := fun x o n e => b x o n (a x o n e)
theorem But.of {c : Addr} {H H' : Hp} (s : Same H H') : But c H H' := fun b o _ e => s b o e
theorem But.put {c : Addr} {H : Hp} {o : HO} : But c H (upd H c o) := fun b u n e => by rw [upd_ne n]; exact e

def spCup (K : PySem.W.Frag) : Sp := fun vs H Q _ => ∃ (a : Addr) (ns : List Int) (k : Nat), vs = [.ref a, .int k] ∧ SqL K H a (ns.map V.int) ∧ ns.length ≤ 63 ∧ k ≤ 100 ∧ ∀ p H', H p = none → Same H H' → Cup H' p → Q (.ref p) H'
theorem scCup : FnScope ["_law_script", "_law_at", "_law_cell", "_law_great", "_law_blend"] ["_law_script", "_law_at"] (defScope sCup) := ⟨rfl, rfl, rfl, by decide +kernel, rfl, by decide +kernel, by decide +kernel⟩
theorem ok_cup {f : Addr} {fd : FuncData} (F : Fun K "_law_cup" "_law_cup" sCup f fd) (T : Txt K mg) : FnOk P w K mg base CX0 1 f fd ["_law_script", "_law_at"] (spCup K) := by
  refine F.ok scCup (fun vs H Q E h => ?_) (fun cdv A outer s H vs Q E hr h => ?_)
  · obtain ⟨a, ns, k, rfl, _⟩ := h
    rfl
  · obtain ⟨a, ns, k, rfl, hS, hlen, hk, q⟩ := h
    refine ⟨_, pss_cons (ps_set (i := 2) scCup.nd rfl (Or.inl rfl) (pe_ifExp (pt_cmpR op_lt (pv 1) (pe_callB call_len (by rfl) T.len PySem.boot_len (pa_cons (pv 0) pa_nil)) (nomark _))
        (pe_ix ix_list (pv 0) (pv 1) (fun _ _ => rfl)) (pe_op op_add (pe_op op_mul pe_int (pv 1)) pe_int)))
      (pss_cons (ps_set (i := 3) scCup.nd rfl (Or.inl rfl) (pe_op op_modN (pe_callTy call_int1 (by rfl) T.int (by decide +kernel) (pa_cons (pe_callB call_abs (by rfl) T.abs (by decide +kernel) (pa_cons (pv 2) pa_nil)) pa_nil))
        (pe_op op_powW (pe_op op_pow pe_int pe_int) pe_int)))
      (pss_cons (ps_set (i := 4) scCup.nd rfl (Or.inl rfl) (pe_op op_add (pe_op op_add (pe_op op_add
          (pe_op op_mul (pe_op op_modN (pe_callTy call_int1 (by rfl) T.int (by decide +kernel) (pa_cons (pv 3) pa_nil)) pe_int) pe_int) (pe_op op_mul pe_int (pv 1)))
          (pe_op op_mul pe_int (pe_callTy call_int1 (by rfl) T.int (by decide +kernel) (pa_cons (pe_cmpR op_lt (pv 2) pe_int (nomark _)) pa_nil)))) pe_int))
      (pss_one (ps_ret (pe_lst (pa_cons (pe_callB (call_max2 rfl) (by rfl) T.max (by decide +kernel) (pa_cons pe_int (pa_cons (pe_op op_sub (pv 3) (pe_op op_pow pe_int pe_int)) pa_nil)))
        (pa_cons (pe_op op_modN (pe_callTy call_int1 (by rfl) T.int (by decide +kernel) (pa_cons (pv 4) pa_nil)) pe_int) (pa_cons pe_int pa_nil)))))))), ?_⟩
    refine ⟨_, rfl, _, rfl, _, ns.length, rfl, .inl ⟨_, hS, by rw [List.length_map]⟩, _, _, rfl, rfl, _, rfl, ?_⟩
    refine ite2 (fun hc => ?_) (fun _ => ?_)
    · have hk2 : k < ns.length := by
        have := of_decide_eq_true hc
        omega
      refine ⟨_, rfl, _, rfl, a, _, _, .int ns[k], rfl, rfl, hS, atI_nat (by rw [List.getElem?_map, List.getElem?_eq_getElem hk2]; rfl), ?_⟩
      refine ⟨_, rfl, _, rfl, .inl ⟨_, rfl, _, _, rfl, rfl, ⟨by decide, by decide, by decide⟩, _, _, rfl, rfl, ⟨by decide, by decide +kernel⟩, _, _, rfl, rfl, (show (((10 : Int) ^ Int.toNat 61) ^ Int.toNat 11) ≠ 0 by decide +kernel), ?_⟩⟩
      refine ⟨_, rfl, .inl ⟨_, rfl, _, _, rfl, rfl, (show (2147483179 : Int) ≠ 0 by decide), _, _, rfl, rfl, .inr ⟨by decide, by decide⟩, _, rfl, _, _, rfl, rfl, .inl ⟨by decide, by decide⟩, _, _, rfl, rfl, _, rfl, _, _, rfl, rfl,
        .inr ⟨_, rfl, _, _, rfl, rfl, .inl ⟨by decide, by decide⟩, _, _, rfl, rfl, _, _, rfl, rfl, ?_⟩⟩⟩
      refine ⟨_, rfl, _, _, rfl, rfl, ⟨by decide, by decide, by decide⟩, _, _, rfl, rfl, _, _, rfl, _, rfl, .inl ⟨_, rfl, _, _, rfl, rfl, (show (2305843009213693907 : Int) ≠ 0 by decide), by show 3 ≤ sizeLine; decide, fun p hp => ?_⟩⟩
      exact q p _ hp (same_upd hp) ⟨_, _, _, upd_same⟩
    · refine ⟨_, rfl, _, _, rfl, rfl, .inl ⟨by decide, by decide⟩, _, _, rfl, rfl, ?_⟩
      refine ⟨_, rfl, _, rfl, .inl ⟨_, rfl, _, _, rfl, rfl, ⟨by decide, by decide, by decide⟩, _, _, rfl, rfl, ⟨by decide, by decide +kernel⟩, _, _, rfl, rfl, (show (((10 : Int) ^ Int.toNat 61) ^ Int.toNat 11) ≠ 0 by decide +kernel), ?_⟩⟩
      refine ⟨_, rfl, .inl ⟨_, rfl, _, _, rfl, rfl, (show (2147483179 : Int) ≠ 0 by decide), _, _, rfl, rfl, .inr ⟨by decide, by decide⟩, _, rfl, _, _, rfl, rfl, .inl ⟨by decide, by decide⟩, _, _, rfl, rfl, _, rfl, _, _, rfl, rfl,
        .inr ⟨_, rfl, _, _, rfl, rfl, .inl ⟨by decide, by decide⟩, _, _, rfl, rfl, _, _, rfl, rfl, ?_⟩⟩⟩
      refine ⟨_, rfl, _, _, rfl, rfl, ⟨by decide, by decide, by decide⟩, _, _, rfl, rfl, _, _, rfl, _, rfl, .inl ⟨_, rfl, _, _, rfl, rfl, (show (2305843009213693907 : Int) ≠ 0 by decide), by show 3 ≤ sizeLine; decide, fun p hp => ?_⟩⟩
      exact q p _ hp (same_upd hp) ⟨_, _, _, upd_same⟩

def spBit : Sp := fun vs H Q _ => ∃ (c : Addr) (m : Int), vs = [.ref c, .int m] ∧ Cup H c ∧ 0 < m ∧ m.natAbs < 2 ^ 9000 ∧ ∀ r H', 0 ≤ r → r < m → Cup H' c → But c H H' → Q (.int r) H'
theorem scBit : FnScope ["_law_cup_here", "_law_much", "_law_found", "_law_first", "_law_later"] ["_law_cup_here", "_law_much"] (defScope sBit) := ⟨rfl, rfl, rfl, by decide +kernel, rfl, by decide +kernel, by decide +kernel⟩
theorem ok_bit {f : Addr} {fd : FuncData} (F : Fun K "_law_bit" "_law_bit" sBit f fd) (T : Txt K mg) : FnOk P w K mg base CX0 1 f fd ["_law_cup_here", "_law_much"] spBit := by
  refine F.ok scBit (fun vs H Q E h => ?_) (fun cdv A outer s H vs Q E hr h => ?_)
  · obtain ⟨c, m, rfl, _⟩ := h
    rfl
  · obtain ⟨c, m, rfl, ⟨a0, a1, a2, hc⟩, hm, hm2, q⟩ := h
    refine ⟨_, pss_cons (ps_if (pt_cmpR op_gt (pe_ix ix_list (pv 0) pe_int (fun _ _ => rfl)) pe_int (nomark _))
        (pss_cons (ps_set (i := 2) scBit.nd rfl (Or.inl rfl) (pe_op op_modN (pe_callTy call_int1 (by rfl) T.int (by decide +kernel) (pa_cons (pe_ix ix_list (pv 0) pe_int (fun _ _ => rfl)) pa_nil)) (pv 1)))
        (pss_cons (ps_asg (pe_op op_fdivW (pe_ix ix_list (pv 0) pe_int (fun _ _ => rfl)) (pv 1)) (pg_sub (pv 0) pe_int set_list))
        (pss_one (ps_ret (pv 2))))) pss_nil)
      (pss_cons (ps_asg (pe_op op_add (pe_ix ix_list (pv 0) pe_int (fun _ _ => rfl)) pe_int) (pg_sub (pv 0) pe_int set_list))
      (pss_cons (ps_set (i := 3) scBit.nd rfl (Or.inl rfl) (pe_op op_modN (pe_callTy call_int1 (by rfl) T.int (by decide +kernel) (pa_cons (pe_op op_add (pe_ix ix_list (pv 0) pe_int (fun _ _ => rfl))
          (pe_op op_mul pe_int (pe_ix ix_list (pv 0) pe_int (fun _ _ => rfl)))) pa_nil)) pe_int))
      (pss_cons (ps_set (i := 4) scBit.nd rfl (Or.inl rfl) (pe_op op_add (pe_op op_mul (pe_op op_modN (pe_callTy call_int1 (by rfl) T.int (by decide +kernel) (pa_cons (pe_op op_mul (pv 3) (pv 3)) pa_nil)) pe_int) (pv 3))
          (pe_op op_mul pe_int (pe_ix ix_list (pv 0) pe_int (fun _ _ => rfl)))))
      (pss_one (ps_ret (pe_op op_modN (pe_callTy call_int1 (by rfl) T.int (by decide +kernel) (pa_cons (pe_op op_fdivN (pe_op op_modN (pe_callTy call_int1 (by rfl) T.int (by decide +kernel) (pa_cons (pv 4) pa_nil)) pe_int) pe_int) pa_nil)) (pv 1))))))), ?_⟩
    have at0 : ∀ {x y z : V}, atI [x, y, z] (0 : Int) = some x := rfl
    have at1 : ∀ {x y z : V}, atI [x, y, z] (1 : Int) = some y := rfl
    have at2 : ∀ {x y z : V}, atI [x, y, z] (2 : Int) = some z := rfl
    have rest : ∀ i : Int, 0 ≤ i.fmod m ∧ i.fmod m < m := fun i => by
      rw [Int.fmod_eq_emod_of_nonneg i (Int.le_of_lt hm)]
      exact ⟨Int.emod_nonneg i (Int.ne_of_gt hm), Int.emod_lt_of_pos i hm⟩
    refine ⟨_, rfl, c, _, _, _, rfl, rfl, SqL.of hc, at0, _, _, rfl, rfl, _, rfl, ?_⟩
    refine ite2 (fun _ => ?_) (fun _ => ?_)
    · refine ⟨_, rfl, c, _, _, _, rfl, rfl, SqL.of hc, at0, .inl ⟨_, rfl, _, rfl, _, _, rfl, rfl, (Int.ne_of_gt hm), ?_⟩⟩
      refine ⟨_, rfl, c, _, _, _, rfl, rfl, SqL.of hc, at0, _, rfl, _, _, rfl, rfl, wide_div hm hm2 (by decide) (by decide), ?_⟩
      refine ⟨_, rfl, c, _, _, 0, rfl, rfl, hc, rfl, ?_⟩
      exact ⟨_, rfl, q _ _ (rest _).1 (rest _).2 ⟨_, _, _, upd_same⟩ But.put⟩
    · refine ⟨_, rfl, c, _, _, _, rfl, rfl, SqL.of hc, at2, _, _, rfl, rfl, _, rfl, c, _, _, 2, rfl, rfl, hc, rfl, ?_⟩
      have hc2 : (upd H c (.lst ([.int a0, .int a1, .int a2].set 2 (.int (a2 + 1))))) c = some (.lst [.int a0, .int a1, .int (a2 + 1)]) := upd_same
      refine ⟨_, rfl, c, _, _, _, rfl, rfl, SqL.of hc2, at1, _, rfl, c, _, _, _, rfl, rfl, SqL.of hc2, at2, _, _, rfl, rfl, .inl ⟨by decide, by decide⟩, _, _, rfl, rfl, .inl ⟨_, rfl, _, _, rfl, rfl, (show (2305843009213693951 : Int) ≠ 0 by decide), ?_⟩⟩
      have f1 := Int.emod_nonneg (a1 + 1000541 * (a2 + 1)) (b := 2305843009213693951) (by decide)
      have f2 := Int.emod_lt_of_pos (a1 + 1000541 * (a2 + 1)) (b := 2305843009213693951) (by decide)
      rw [← Int.fmod_eq_emod_of_nonneg (a1 + 1000541 * (a2 + 1)) (b := 2305843009213693951) (by decide)] at f1 f2
      have f3 : -(2 ^ 64 : Int) < Int.fmod (a1 + 1000541 * (a2 + 1)) 2305843009213693951 ∧ Int.fmod (a1 + 1000541 * (a2 + 1)) 2305843009213693951 < 2 ^ 64 :=
        ⟨Int.lt_of_lt_of_le (by decide) f1, Int.lt_trans f2 (by decide)⟩
      refine ⟨_, rfl, _, rfl, _, _, rfl, rfl, .inl f3, .inl ⟨_, rfl, _, _, rfl, rfl, (show (2305843009213693921 : Int) ≠ 0 by decide), _, rfl, _, _, rfl, rfl, .inr f3, _, rfl, c, _, _, _, rfl, rfl, SqL.of hc2, at2,
        _, _, rfl, rfl, .inl ⟨by decide, by decide⟩, _, _, rfl, rfl, ?_⟩⟩
      refine ⟨_, rfl, .inl ⟨_, rfl, _, _, rfl, rfl, (show (2305843009213693907 : Int) ≠ 0 by decide), _, _, rfl, rfl, (show (16384 : Int) ≠ 0 ∧ (16384 : Int).natAbs < 1073741824 by decide), .inl ⟨_, rfl, _, rfl, _, _, rfl, rfl, (Int.ne_of_gt hm), ?_⟩⟩⟩
      exact q _ _ (rest _).1 (rest _).2 ⟨_, _, _, hc2⟩ But.put
/-! ### drawing -/
theorem scPick : FnScope ["_law_cup_here", "_law_items"] ["_law_cup_here", "_law_items"] (defScope sPick) := ⟨rfl, rfl, rfl, by decide +kernel, rfl, by decide +kernel, by decide +kernel⟩
def spPick : Sp := fun vs H Q _ => ∃ (c : Addr), Cup H c ∧
  ((∃ (p : Addr) (xs : List V), vs = [.ref c, .ref p] ∧ p ≠ c ∧ H p = some (.lst xs) ∧ 0 < xs.length ∧ xs.length < 100 ∧ ∀ x H', x ∈ xs → Cup H' c → But c H H' → Q x H') ∨
   (∃ z : Str, vs = [.ref c, .str z] ∧ 0 < z.length ∧ z.length < 100 ∧ ∀ s H', s ∈ cds z → Cup H' c → But c H H' → Q (.str (one s)) H'))
theorem ok_pick {f fB : Addr} {fd fdB : FuncData} (F : Fun K "_law_pick" "_law_pick" sPick f fd) (T : Txt K mg) (DB : Df K mg "_law_bit" sBit ["_law_cup_here", "_law_much"] fB fdB) :
    FnOk P w K mg base CX0 2 f fd ["_law_cup_here", "_law_items"] spPick := by
  have G := ok_bit (P := P) (w := w) (base := base) DB.F T
  refine F.ok scPick (fun vs H Q E h => ?_) (fun cdv A outer s H vs Q E hr h => ?_)
  · obtain ⟨c, _, h⟩ := h
    rcases h with ⟨p, xs, rfl, _⟩ | ⟨z, rfl, _⟩ <;> rfl
  · obtain ⟨c, hc, h⟩ := h
    refine ⟨_, pss_one (ps_ret (pe_ix ix_seq (pv 1) (pe_call G hr (by rfl) DB.m DB.F.kp DB.b .nil pass0 (pa_cons (pv 0) (pa_cons (pe_callB call_len (by rfl) T.len PySem.boot_len (pa_cons (pv 1) pa_nil)) pa_nil))) (fun _ _ => rfl))), ?_⟩
    have small : ∀ n : Nat, n < 100 → (n : Int).natAbs < 2 ^ 9000 := fun n hn => Nat.lt_of_lt_of_le (show (n : Int).natAbs < 2 ^ 7 by omega) (Nat.pow_le_pow_right (by decide) (by decide))
    rcases h with ⟨p, xs, rfl, hpc, hp, h0, h1, q⟩ | ⟨z, rfl, h0, h1, q⟩
    · refine ⟨_, rfl, _, rfl, _, rfl, _, xs.length, rfl, .inl ⟨_, SqL.of hp, rfl⟩, c, xs.length, rfl, hc, by omega, small _ h1, fun r H' r0 r1 hc' but => ?_⟩
      obtain ⟨n, rfl⟩ := Int.eq_ofNat_of_zero_le r0
      have hn : n < xs.length := by omega
      exact .inl ⟨p, xs, _, xs[n], rfl, rfl, SqL.of (but _ _ hpc hp), atI_nat (List.getElem?_eq_getElem hn), q _ _ (List.getElem_mem hn) hc' but⟩
    · have hl : z.length ≤ sizeLine := Nat.le_trans (Nat.le_of_lt h1) (by decide)
      refine ⟨_, rfl, _, rfl, _, rfl, _, z.length, rfl, ⟨hl, rfl⟩, c, z.length, rfl, hc, by omega, small _ h1, fun r H' r0 r1 hc' but => ?_⟩
      obtain ⟨n, rfl⟩ := Int.eq_ofNat_of_zero_le r0
      have hn : n < (cds z).length := by rw [cds_len]; omega
      exact .inr (.inr ⟨z, _, (cds z)[n], rfl, rfl, hl, atI_nat (List.getElem?_eq_getElem hn), q _ _ (List.getElem_mem hn) hc' but⟩)

def Signs (z : Str) : Prop := z = "ab" ∨ z = "xy" ∨ z = "a" ∨ z = "abc"
def spSigns : Sp := fun vs H Q _ => ∃ (c : Addr), vs = [.ref c] ∧ Cup H c ∧ ∀ z H', Signs z → Cup H' c → But c H H' → Q (.str z) H'
theorem scSigns : FnScope ["_law_cup_here"] ["_law_cup_here"] (defScope sSigns) := ⟨rfl, rfl, rfl, by decide +kernel, rfl, by decide +kernel, by decide +kernel⟩
theorem Cup.same {H H' : Hp} {c : Addr} (s : Same H H') (h : Cup H c) : Cup H' c := let ⟨a, b, d, e⟩ := h; ⟨a, b, d, s _ _ e⟩
theorem Cup.ne {H : Hp} {c p : Addr} (h : Cup H c) (n : H p = none) : p ≠ c := by
  obtain ⟨a, b, d, e⟩ := h
  exact (ne_of_none e n).symm
theorem ok_signs {f fB fP : Addr} {fd fdB fdP : FuncData} (F : Fun K "_law_signs" "_law_signs" sSigns f fd) (T : Txt K mg) (DB : Df K mg "_law_bit" sBit ["_law_cup_here", "_law_much"] fB fdB)
    (DP : Df K mg "_law_pick" sPick ["_law_cup_here", "_law_items"] fP fdP) : FnOk P w K mg base CX0 3 f fd ["_law_cup_here"] spSigns := by
  have G := ok_pick (P := P) (w := w) (base := base) DP.F T DB
  refine F.ok scSigns (fun vs H Q E h => ?_) (fun cdv A outer s H vs Q E hr h => ?_)
  · obtain ⟨c, rfl, _⟩ := h
    rfl
  · obtain ⟨c, rfl, hc, q⟩ := h
    refine ⟨_, pss_one (ps_ret (pe_call G hr (by rfl) DP.m DP.F.kp DP.b .nil pass0 (pa_cons (pv 0) (pa_cons (pe_lst (pa_cons pe_str (pa_cons pe_str (pa_cons pe_str (pa_cons pe_str (pa_cons pe_str (pa_cons pe_str pa_nil))))))) pa_nil)))), ?_⟩
    refine ⟨_, rfl, by show 6 ≤ sizeLine; decide, fun p np => ⟨c, hc.same (same_upd np), .inl ⟨p, _, rfl, hc.ne np, upd_same, by decide, by decide, fun x H' hx hc' but => ?_⟩⟩⟩
    have b2 : But c H H' := (But.of (same_upd np)).trans but
    simp only [List.mem_cons, List.not_mem_nil, or_false] at hx
    rcases hx with rfl | rfl | rfl | rfl | rfl | rfl
    · exact q _ _ (.inl rfl) hc' b2
    · exact q _ _ (.inl rfl) hc' b2
    · exact q _ _ (.inl rfl) hc' b2
    · exact q _ _ (.inr (.inl rfl)) hc' b2
    · exact q _ _ (.inr (.inr (.inl rfl))) hc' b2
    · exact q _ _ (.inr (.inr (.inr rfl))) hc' b2
end
end K4

set_option Elab.async false
set_option linter.all false
set_option maxRecDepth 100000
set_option maxHeartbeats 3200000
/-! a * b, ~a and the like by an own operator of a class of the text -/
namespace Ow
open PySem PySem.Spec PyProof.Rows L2
theorem no_ni {v : V} {u : Value} (r : RelV v u) : u ≠ .notImplemented := by
  rintro rfl
  cases v <;> first | (obtain ⟨_, r⟩ := r; exact Value.noConfusion r) | exact Value.noConfusion r
section
variable {X : Cx} {CX : CXT} {C f : Addr} {fd : FuncData} {ps : List Str} {sp : Sp} {E : XK} {k : Nat} {op : Operator}
/-- both of the class at C: what the operator's def promises -/
def rOwn (C : Addr) (sp : Sp) (E : XK) : R2 := fun x y H Q => ∃ a b dx dy fs gs, x = .ref a ∧ y = .ref b ∧ H a = some (.ins C dx fs) ∧ H b = some (.ins C dy gs) ∧ sp [.ref a, .ref b] H Q E
/-- a call of such a def from where the operator stands -/
theorem own_call (F : FnOk X.prog X.w X.K X.mg X.base CX k f fd ps sp) (hr : Room k X.A) (hb : Binds X.K fd ps []) (hx : Passes CX X E) {pins : List (Addr × Obj)} {s : Shared} {σ : L2.St} {H : Hp} {Q : VK} {us : List Value} {vs : List V}
    (I : Inv X pins σ H s) (r : Vals vs us) (h : sp vs H Q E) : wpAny (model X.prog X.w) X.A (call (.ref f) us) (EP X pins σ Q) X.xe s := by
  have hl := F.len _ _ _ _ h
  refine wpAny_call (codeAny_mono (F.run X.A X.stack s H ⟨us, []⟩ us vs Q E hr I.env0 (by
    have := hb s us I.kIn (by rw [List.append_nil, ← r.length]; exact hl)
    simpa using this) r h) fun r s' hq => ?_)
  cases r with
  | error e => exact hx pins σ H s e s' I hq
  | ok fl =>
    cases fl with
    | ret w => exact I.after hq
    | next => exact False.elim hq
    | brk => exact False.elim hq
    | cont => exact False.elim hq
theorem op_own (F : FnOk X.prog X.w X.K X.mg X.base CX k f fd ps sp) (hr : Room k X.A) (hc : PySem.W.selfFirst X.K C = true) (hs : PySem.W.findIn X.K (.ref C) (PySem.dunder op.info.2) = some (some (.ref f))) (hf : PySem.W.isFn X.K (.ref f) = true)
    (hb : Binds X.K fd ps []) (hx : Passes CX X E) : OpR X (binaryOp op) (rOwn C sp E) := by
  intro pins s σ H x y u v Q I rx ry hq
  obtain ⟨a, b, dx, dy, fs, gs, rfl, rfl, ha, hb', h⟩ := hq
  cases rx
  cases ry
  obtain ⟨mA, J, _⟩ := ins_get I.hok ha
  obtain ⟨mB, J', _⟩ := ins_get I.hok hb'
  obtain ⟨od, J, _⟩ := J.look
  obtain ⟨od', J', _⟩ := J'.look
  obtain ⟨m, hF⟩ := I.fr
  refine PySem.W.binop_K hF I.ok.mod.kin J J'.type hc hs hf ?_
  refine wpAny_mono (own_call F hr hb hx I (vs := [V.ref a, V.ref b]) (.cons rfl (.cons rfl .nil)) h) (fun w s' z => ?_) fun _ _ e => e
  obtain ⟨v, H', I', rv, q⟩ := z
  have := no_ni rv
  cases w <;> first | exact absurd rfl this | exact ⟨v, H', I', rv, q⟩
/-- a op v, v of a built-in type (an own operator that refuses such) -/
def rOwnT (K : PySem.W.Frag) (C : Addr) (T : String) (sp : Sp) (E : XK) : R2 := fun x y H Q => ∃ a dx fs, x = .ref a ∧ H a = some (.ins C dx fs) ∧ (∀ u, RelV y u → typeOf u = pure (.type T)) ∧ sp [.ref a, y] H Q E
theorem op_ownT {T : String} {fo ro rc : Option Value} (F : FnOk X.prog X.w X.K X.mg X.base CX k f fd ps sp) (hr : Room k X.A) (hc : PySem.W.selfFirst X.K C = true) (hs : PySem.W.findIn X.K (.ref C) (PySem.dunder op.info.2) = some (some (.ref f))) (hf : PySem.W.isFn X.K (.ref f) = true)
    (hrc : PySem.W.findIn X.K (.ref C) (dunderR op.info.2) = some rc) (hp : rc = none ∨ ∃ g : Addr, rc = some (.ref g)) (h1 : PySem.W.findIn X.K (.type T) (PySem.dunder op.info.2) = some fo) (h2 : PySem.W.findIn X.K (.type T) (dunderR op.info.2) = some ro)
    (hsub : PySem.W.subIn X.K (.type T) (.ref C) = some false) (hb : Binds X.K fd ps []) (hx : Passes CX X E) : OpR X (binaryOp op) (rOwnT X.K C T sp E) := by
  intro pins s σ H x y u v Q I rx ry hq
  obtain ⟨a, dx, fs, rfl, ha, ht, h⟩ := hq
  cases rx
  obtain ⟨mA, J, _⟩ := ins_get I.hok ha
  obtain ⟨od, J, _⟩ := J.look
  obtain ⟨m, hF⟩ := I.fr
  refine PySem.W.ksp_binT hF I.ok.mod.kin J (ht _ ry) hc hs hf hrc hp h1 h2 hsub ?_
  refine wpAny_mono (own_call F hr hb hx I (vs := [V.ref a, y]) (.cons rfl (.cons ry .nil)) h) (fun w s' z => ?_) fun _ _ e => e
  obtain ⟨v, H', I', rv, q⟩ := z
  have := no_ni rv
  cases w <;> first | exact absurd rfl this | exact ⟨v, H', I', rv, q⟩
/-- ~a, -a by the text's own operator -/
def rOwn1 (C : Addr) (sp : Sp) (E : XK) : V → Hp → VK → Prop := fun x H Q => ∃ a dx fs, x = .ref a ∧ H a = some (.ins C dx fs) ∧ sp [.ref a] H Q E
theorem un_own (F : FnOk X.prog X.w X.K X.mg X.base CX k f fd ps sp) (hr : Room k X.A) (hs : PySem.W.findIn X.K (.ref C) "__invert__" = some (some (.ref f))) (hf : PySem.W.isFn X.K (.ref f) = true)
    (hb : Binds X.K fd ps []) (hx : Passes CX X E) : UnR X (unaryOp .Invert) (rOwn1 C sp E) := by
  intro pins s σ H x u Q I rx hq
  obtain ⟨a, dx, fs, rfl, ha, h⟩ := hq
  cases rx
  obtain ⟨mA, J, _⟩ := ins_get I.hok ha
  obtain ⟨od, J, _⟩ := J.look
  obtain ⟨m, hF⟩ := I.fr
  exact PySem.W.ksp_inv hF I.ok.mod.kin J hs hf (own_call F hr hb hx I (vs := [V.ref a]) (.cons rfl .nil) h)
/-- the same call one step further within -/
theorem own_call1 {A : Around} (hA : A.frames = X.A.frames) (F : FnOk X.prog X.w X.K X.mg X.base CX k f fd ps sp) (hr : Room k A) (hb : Binds X.K fd ps []) (hx : Passes CX X E) {pins : List (Addr × Obj)} {s : Shared} {σ : L2.St} {H : Hp} {Q : VK} {us : List Value} {vs : List V}
    (I : Inv X pins σ H s) (r : Vals vs us) (h : sp vs H Q E) : wpAny (model X.prog X.w) A (call (.ref f) us) (EP X pins σ Q) X.xe s := by
  have hl := F.len _ _ _ _ h
  have e0 : Env0 X.prog X.w X.K X.mg X.base A X.stack s H := by
    have e := I.env0
    exact ⟨by rw [hA]; exact e.frames, e.mod, e.bs, e.bsz, e.funs, e.frf, e.hok, e.bare⟩
  refine wpAny_call (codeAny_mono (F.run A X.stack s H ⟨us, []⟩ us vs Q E hr e0 (by
    have := hb s us I.kIn (by rw [List.append_nil, ← r.length]; exact hl)
    simpa using this) r h) fun r s' hq => ?_)
  cases r with
  | error e => exact hx pins σ H s e s' I hq
  | ok fl =>
    cases fl with
    | ret w => exact I.after hq
    | next => exact False.elim hq
    | brk => exact False.elim hq
    | cont => exact False.elim hq
/-- a == b, both of the class C, by its own __eq__, whatever it answers -/
theorem eq_own (F : FnOk X.prog X.w X.K X.mg X.base CX k f fd ps sp) (hr : Room k X.A) (hn : PySem.W.notFirst X.K C (.ref C) = true) (hs : PySem.W.findIn X.K (.ref C) "__eq__" = some (some (.ref f))) (hf : PySem.W.isFn X.K (.ref f) = true)
    (hb : Binds X.K fd ps []) (hx : Passes CX X E) : OpR X (compareOp .Eq) (rOwn C sp E) := by
  intro pins s σ H x y u v Q I rx ry hq
  obtain ⟨a, b, dx, dy, fs, gs, rfl, rfl, ha, hb', h⟩ := hq
  cases rx
  cases ry
  obtain ⟨mA, J, _⟩ := ins_get I.hok ha
  obtain ⟨mB, J', _⟩ := ins_get I.hok hb'
  obtain ⟨od, J, _⟩ := J.look
  obtain ⟨od', J', _⟩ := J'.look
  obtain ⟨m, hF⟩ := I.fr
  show wpAny (model X.prog X.w) X.A (richCompare .Eq (.ref a) (.ref b)) (EP X pins σ Q) X.xe s
  refine PySem.W.cmp_K (op := .Eq) (tb := .ref C) hr.units0 hF I.ok.mod.kin J J'.type hn hs hf ?_
  refine wpAny_mono (own_call F hr hb hx I (vs := [V.ref a, V.ref b]) (.cons rfl (.cons rfl .nil)) h) (fun w s' z => ?_) fun _ _ e => e
  obtain ⟨v, H', I', rv, q⟩ := z
  have := no_ni rv
  cases w <;> first | exact absurd rfl this | exact ⟨v, H', I', rv, q⟩
/-- len(a) by the class's own __len__ -/
def rLenOwn (C : Addr) (sp : Sp) (E : XK) : List V → Hp → VK → Prop := fun xs H Q => ∃ a dx fs, xs = [.ref a] ∧ H a = some (.ins C dx fs) ∧ sp [.ref a] H (fun v H' => ∃ n : Int, v = .int n ∧ 0 ≤ n ∧ n < 2 ^ 63 ∧ Q (.int n) H') E
theorem len_own (F : FnOk X.prog X.w X.K X.mg X.base CX k f fd ps sp) (hr : Room (k + 1) X.A) (hs : PySem.W.findIn X.K (.ref C) "__len__" = some (some (.ref f))) (hf : PySem.W.isFn X.K (.ref f) = true)
    (hb : Binds X.K fd ps []) (hx : Passes CX X E) : CallR X (.builtin "len") (rLenOwn C sp E) := by
  intro pins s σ H xs us Q I r hq
  obtain ⟨a, dx, fs, rfl, ha, h⟩ := hq
  obtain rfl := Vals.ref1 r
  obtain ⟨mA, J, _⟩ := ins_get I.hok ha
  obtain ⟨od, J, _⟩ := J.look
  obtain ⟨m, hF⟩ := I.fr
  refine PySem.W.len_K hF I.ok.mod.kin J hs hf ?_
  refine wpAny_mono (own_call1 (A := X.A.in1) rfl F hr.in1 hb hx I (vs := [V.ref a]) (.cons rfl .nil) h) (fun w s' z => ?_) fun _ _ e => e
  obtain ⟨v, H', I', rv, n, rfl, h0, h1, q⟩ := z
  obtain ⟨t, rfl⟩ := rv
  exact ⟨⟨h0, h1⟩, .int n, H', I'.tok _, ⟨_, rfl⟩, q⟩
end
end Ow

set_option Elab.async false
set_option linter.all false
set_option maxRecDepth 100000
set_option maxHeartbeats 3200000
/-! a != b, both of a class of the text that has only an own __eq__ -/
namespace Ow
open PySem PySem.Spec PyProof.Rows L2
theorem ifBound_b {A : Around} {E : Value → Shared → Prop} {s : Shared} {K : PySem.W.Frag} {x C : Addr} {ox : Obj} {od : Option Obj} {name : Str} {id : String} {M : Model} {args : List Value} {Q : Option Value → Shared → Prop} (X : K.In s.heap) (I : PySem.W.InstAt s.heap x ox C od)
    (hs : PySem.W.findIn K (.ref C) name = some (some (.builtin id))) (hb : ∀ self, bindSpecial (.builtin id) self = pure (.builtin id, [self]))
    (h : wpAny M A (call (.builtin id) (.ref x :: args)) (fun v => Q (some v)) E s) : wpAny M A (callSpecialIfBound? (.ref x) name args) Q E s := by
  simp only [callSpecialIfBound?, bindSpecialIfBound?]
  refine wpAny_holding (wpAny_bind (wpAny_bind (wpAny_bind (I.type.here ((PySem.W.looks_findIn X hs).here ?_)))))
  simp only [hb]
  refine wpAny_bind (wpAny_askSetting (wpAny_ite ?_))
  have fin : wpAny M A (call (.builtin id) ([.ref x] ++ args) >>= fun v => pure (some v)) Q E s := wpAny_bind (wpAny_mono h (fun v s' h' => wpAny_pure h') fun _ _ h' => h')
  split
  · exact wpAny_bind (wpAny_pure (wpAny_pure fin))
  · exact wpAny_tryCatch (wpAny_bind (wpAny_pure (wpAny_pure fin)))
section
variable {X : Cx} {CX : CXT} {C f : Addr} {fd : FuncData} {ps : List Str} {sp : Sp} {E : XK} {k : Nat}
def rOwnNe (C : Addr) (sp : Sp) (E : XK) : R2 := fun x y H Q => ∃ a b dx dy fs gs, x = .ref a ∧ y = .ref b ∧ H a = some (.ins C dx fs) ∧ H b = some (.ins C dy gs) ∧ sp [.ref a, .ref b] H (fun v H' => ∃ t : Bool, v = .bl t ∧ Q (.bl (!t)) H') E
theorem ne_own (F : FnOk X.prog X.w X.K X.mg X.base CX k f fd ps sp) (hr : Room (k + 1) X.A) (hob : PySem.W.subIn X.K (.ref C) (.type "object") = some true) (hn : PySem.W.findIn X.K (.ref C) "__ne__" = some (some (.builtin "object.__ne__")))
    (hs : PySem.W.findIn X.K (.ref C) "__eq__" = some (some (.ref f))) (hf : PySem.W.isFn X.K (.ref f) = true) (hb : Binds X.K fd ps []) (hx : Passes CX X E) : OpR X (compareOp .NotEq) (rOwnNe C sp E) := by
  intro pins s σ H x y u v Q I rx ry hq
  obtain ⟨a, b, dx, dy, fs, gs, rfl, rfl, ha, hb', h⟩ := hq
  cases rx
  cases ry
  obtain ⟨mA, J, _⟩ := ins_get I.hok ha
  obtain ⟨mB, J', _⟩ := ins_get I.hok hb'
  obtain ⟨od, J, _⟩ := J.look
  obtain ⟨od', J', _⟩ := J'.look
  obtain ⟨m, hF⟩ := I.fr
  have X0 := I.ok.mod.kin.keeps hF.keep
  have inner := own_call1 (A := X.A.in1) rfl F hr.in1 hb hx I (vs := [V.ref a, V.ref b]) (us := [.ref a, .ref b]) (.cons rfl (.cons rfl .nil)) h
  have one : wpAny (model X.prog X.w) X.A (tryCompare (.ref a) "__ne__" (.ref b)) (fun r s' => ∃ v, r = some v ∧ EP X pins σ Q v s') X.xe s := by
    unfold tryCompare
    refine wpAny_bind (ifBound_b X0 J hn PySem.F.cmp_object.ne.bind (wpAny_call (codeAny_call_builtin PySem.F.cmp_object.ne.plain PySem.F.cmpEntry_ne
      (PySem.W.check_slot PySem.F.cmpKind_ne PySem.F.cmpSplit_ne (J.type.andThen (PySem.W.looks_subIn X0 hob)) (PySem.F.cmpArgs_ne _ _) ?_))))
    unfold Builtin.«object.__ne__»
    repeat (first
      | with_reducible refine wpAny_cRoomFor hr.in1.units0 ?_
      | (refine wpAny_bind (m := callSpecialIfBound? (.ref a) (Str.ofString "__eq__") [.ref b]) (PySem.W.ifBound_K X0 J hs hf (wpAny_mono inner (fun r s' hr' => ?_) fun _ _ e => e)))
      | wp_step)
    obtain ⟨v, H', I', rv, t, rfl, q⟩ := hr'
    obtain rfl : r = Value.bool t := rv
    repeat (first | (refine wpAny_bind (m := truthy (.bool _)) (wpAny_truthy_bool ?_)) | wp_step)
    first
      | exact ⟨_, rfl, .bl (!t), H', I', rfl, q⟩
      | exact wpAny_pure ⟨_, rfl, .bl (!t), H', I', rfl, q⟩
  show wpAny (model X.prog X.w) X.A (richCompare .NotEq (.ref a) (.ref b)) (EP X pins σ Q) X.xe s
  unfold richCompare
  simp only [oneThing_ref]
  refine wpAny_holding (wpAny_bind (wpAny_cRoomFor hr.units0 ?_))
  refine wpAny_bind (J.type.here (wpAny_bind (J'.type.here ?_)))
  rw [show (Value.ref C != Value.ref C) = false from by simp]
  simp only [Bool.false_eq_true, if_false]
  refine wpAny_bind (wpAny_pure ?_)
  simp only [Bool.false_eq_true, if_false]
  refine wpAny_bind (wpAny_mono one (fun r s' z => ?_) fun _ _ e => e)
  obtain ⟨v, rfl, hq⟩ := z
  exact wpAny_pure hq
end
end Ow

set_option linter.all false
/-! rows of runs put together: the free group, by hand. A row lies with its last run ahead. -/
namespace Wm
variable {α : Type} [DecidableEq α]
/-- one more run behind a row -/
def push (p : α × Int) : List (α × Int) → List (α × Int)
  | [] => if p.2 = 0 then [] else [p]
  | q :: t => if p.2 = 0 then q :: t else if q.1 = p.1 then (if q.2 + p.2 = 0 then t else (q.1, q.2 + p.2) :: t) else p :: q :: t
/-- unlike neighbours, no exponent 0 -/
def Red : List (α × Int) → Prop
  | [] => True
  | [p] => p.2 ≠ 0
  | p :: q :: t => p.2 ≠ 0 ∧ p.1 ≠ q.1 ∧ Red (q :: t)
theorem Red.tail {p : α × Int} {t : List (α × Int)} (h : Red (p :: t)) : Red t := by
  cases t with
  | nil => trivial
  | cons q t => exact h.2.2
theorem Red.head {p : α × Int} {t : List (α × Int)} (h : Red (p :: t)) : p.2 ≠ 0 := by
  cases t with
  | nil => exact h
  | cons q t => exact h.1
theorem Red.swap {p : α × Int} {t : List (α × Int)} (h : Red (p :: t)) {n : Int} (hn : n ≠ 0) : Red ((p.1, n) :: t) := by
  cases t with
  | nil => exact hn
  | cons q t => exact ⟨hn, h.2.1, h.2.2⟩
theorem red_push {p : α × Int} {r : List (α × Int)} (h : Red r) : Red (push p r) := by
  cases r with
  | nil =>
    show Red (if p.2 = 0 then [] else [p])
    by_cases e : p.2 = 0
    · rw [if_pos e]
      trivial
    · rw [if_neg e]
      exact e
  | cons q t =>
    show Red (if p.2 = 0 then q :: t else if q.1 = p.1 then (if q.2 + p.2 = 0 then t else (q.1, q.2 + p.2) :: t) else p :: q :: t)
    by_cases e1 : p.2 = 0
    · rw [if_pos e1]
      exact h
    · rw [if_neg e1]
      by_cases e2 : q.1 = p.1
      · rw [if_pos e2]
        by_cases e3 : q.2 + p.2 = 0
        · rw [if_pos e3]
          exact h.tail
        · rw [if_neg e3]
          exact h.swap e3
      · rw [if_neg e2]
        exact ⟨e1, fun e => e2 e.symm, h⟩
theorem push_zero {x : α} {r : List (α × Int)} : push (x, 0) r = r := by
  cases r with
  | nil => rfl
  | cons q t => rfl
theorem push_push {x : α} {m n : Int} {r : List (α × Int)} (h : Red r) : push (x, n) (push (x, m) r) = push (x, m + n) r := by
  by_cases hm : m = 0
  · subst hm
    rw [push_zero, Int.zero_add]
  by_cases hn : n = 0
  · subst hn
    rw [push_zero, Int.add_zero]
  cases r with
  | nil =>
    have e1 : push (x, m) [] = [(x, m)] := if_neg hm
    rw [e1]
    show (if n = 0 then _ else if x = x then (if m + n = 0 then _ else _) else _) = (if m + n = 0 then _ else _)
    rw [if_neg hn, if_pos rfl]
  | cons q t =>
    by_cases hq : q.1 = x
    · have e1 : push (x, m) (q :: t) = if q.2 + m = 0 then t else (q.1, q.2 + m) :: t := by
        show (if m = 0 then _ else if q.1 = x then _ else _) = _
        rw [if_neg hm, if_pos hq]
      have e2 : push (x, m + n) (q :: t) = if m + n = 0 then q :: t else if q.2 + (m + n) = 0 then t else (q.1, q.2 + (m + n)) :: t := by
        show (if m + n = 0 then _ else if q.1 = x then _ else _) = _
        rw [if_pos hq]
      rw [e1, e2]
      by_cases h0 : q.2 + m = 0
      · rw [if_pos h0]
        have hne : q.2 ≠ 0 := h.head
        by_cases hmn : m + n = 0
        · -- n is q.2 again
          have en : n = q.2 := by omega
          rw [if_pos hmn, en]
          have hq' : q = (x, q.2) := by rw [← hq]
          cases t with
          | nil =>
            show (if q.2 = 0 then _ else [(x, q.2)]) = [q]
            rw [if_neg hne, ← hq']
          | cons u t =>
            show (if q.2 = 0 then _ else if u.1 = x then _ else (x, q.2) :: u :: t) = q :: u :: t
            have hu : ¬ u.1 = x := fun e => h.2.1 (hq.trans e.symm)
            rw [if_neg hne, if_neg hu, ← hq']
        · rw [if_neg hmn]
          have en : q.2 + (m + n) = n := by omega
          rw [en, if_neg hn]
          cases t with
          | nil =>
            show (if n = 0 then _ else [(x, n)]) = [(q.1, n)]
            rw [if_neg hn, hq]
          | cons u t =>
            have hu : ¬ u.1 = x := fun e => h.2.1 (hq.trans e.symm)
            show (if n = 0 then _ else if u.1 = x then _ else (x, n) :: u :: t) = (q.1, n) :: u :: t
            rw [if_neg hn, if_neg hu, hq]
      · rw [if_neg h0]
        show (if n = 0 then _ else if q.1 = x then (if q.2 + m + n = 0 then t else (q.1, q.2 + m + n) :: t) else _) = _
        rw [if_neg hn, if_pos hq]
        have ea : q.2 + m + n = q.2 + (m + n) := by omega
        rw [ea]
        by_cases hmn : m + n = 0
        · rw [if_pos hmn, hmn, Int.add_zero, if_neg h.head]
        · rw [if_neg hmn]
    · have e1 : push (x, m) (q :: t) = (x, m) :: q :: t := by
        show (if m = 0 then _ else if q.1 = x then _ else _) = _
        rw [if_neg hm, if_neg hq]
      rw [e1]
      show (if n = 0 then _ else if x = x then (if m + n = 0 then q :: t else (x, m + n) :: q :: t) else _) = (if m + n = 0 then q :: t else if q.1 = x then _ else (x, m + n) :: q :: t)
      rw [if_neg hn, if_pos rfl]
      by_cases hmn : m + n = 0
      · rw [if_pos hmn, if_pos hmn]
      · rw [if_neg hmn, if_neg hmn, if_neg hq]
/-- a row, and more runs behind it, the first one ahead -/
def joint (r : List (α × Int)) (l : List (α × Int)) : List (α × Int) := l.foldl (fun r p => push p r) r
theorem joint_app (r l k : List (α × Int)) : joint r (l ++ k) = joint (joint r l) k := List.foldl_append
theorem red_joint : ∀ {l r : List (α × Int)}, Red r → Red (joint r l)
  | [], _, h => h
  | p :: l, _, h => red_joint (l := l) (red_push h)
theorem joint_push {r c : List (α × Int)} (h : Red r) (hc : Red c) (p : α × Int) : joint r (push p c).reverse = push p (joint r c.reverse) := by
  obtain ⟨x, n⟩ := p
  by_cases hn : n = 0
  · subst hn
    rw [push_zero, push_zero]
  cases c with
  | nil =>
    have e : push (x, n) [] = [(x, n)] := if_neg hn
    rw [e]
    rfl
  | cons q t =>
    have ht : Red (joint r t.reverse) := red_joint h
    have er : joint r (q :: t).reverse = push q (joint r t.reverse) := by
      rw [List.reverse_cons, joint_app]
      rfl
    rw [er]
    by_cases hq : q.1 = x
    · have e1 : push (x, n) (q :: t) = if q.2 + n = 0 then t else (q.1, q.2 + n) :: t := by
        show (if n = 0 then _ else if q.1 = x then _ else _) = _
        rw [if_neg hn, if_pos hq]
      have eq' : q = (x, q.2) := by rw [← hq]
      have ep : push (x, n) (push q (joint r t.reverse)) = push (x, q.2 + n) (joint r t.reverse) := by
        rw [eq']
        exact push_push ht
      rw [e1, ep]
      by_cases h0 : q.2 + n = 0
      · rw [if_pos h0, h0, push_zero]
      · rw [if_neg h0, List.reverse_cons, joint_app, hq]
        rfl
    · have e1 : push (x, n) (q :: t) = (x, n) :: q :: t := by
        show (if n = 0 then _ else if q.1 = x then _ else _) = _
        rw [if_neg hn, if_neg hq]
      rw [e1, List.reverse_cons, joint_app, er]
      rfl
/-- what comes of a row of runs does the same as the row -/
theorem joint_joint {r : List (α × Int)} (h : Red r) : ∀ {l c : List (α × Int)}, Red c → joint r (joint c l).reverse = joint (joint r c.reverse) l
  | [], _, _ => rfl
  | p :: l, c, hc => by
    show joint r (joint (push p c) l).reverse = joint (push p (joint r c.reverse)) l
    rw [joint_joint h (red_push hc), joint_push h hc]
/-- a row that is put together is itself -/
theorem joint_self : ∀ {r : List (α × Int)}, Red r → joint [] r.reverse = r
  | [], _ => rfl
  | [p], h => if_neg h
  | p :: q :: t, h => by
    rw [List.reverse_cons, joint_app, joint_self h.tail]
    show (if p.2 = 0 then _ else if q.1 = p.1 then _ else p :: q :: t) = _
    rw [if_neg h.1, if_neg fun e => h.2.1 e.symm]
/-- the opposite exponents -/
def neg (l : List (α × Int)) : List (α × Int) := l.map fun p => (p.1, -p.2)
theorem joint_neg {r : List (α × Int)} (h : Red r) : ∀ c : List (α × Int), joint (joint r c.reverse) (neg c) = r
  | [] => rfl
  | p :: t => by
    rw [List.reverse_cons, joint_app]
    show joint (push (p.1, -p.2) (push p (joint r t.reverse))) (neg t) = r
    have e : push (p.1, -p.2) (push p (joint r t.reverse)) = joint r t.reverse := by
      have := push_push (x := p.1) (m := p.2) (n := -p.2) (red_joint (l := t.reverse) h)
      rw [Int.add_right_neg, push_zero] at this
      exact this
    rw [e]
    exact joint_neg h t
theorem joint_neg' {r : List (α × Int)} (h : Red r) : ∀ c : List (α × Int), joint (joint r (neg c)) c.reverse = r
  | c => by
    have e : neg (neg c).reverse = c.reverse := by
      unfold neg
      rw [List.map_reverse, List.map_map]
      have : ((fun p : α × Int => (p.1, -p.2)) ∘ fun p : α × Int => (p.1, -p.2)) = id := funext fun p => by simp
      rw [this, List.map_id]
    have := joint_neg h (neg c).reverse
    rw [List.reverse_reverse, e] at this
    exact this
theorem red_neg_rev : ∀ {c : List (α × Int)}, Red c → Red (neg c).reverse := by
  intro c hc
  have : ∀ (c acc : List (α × Int)), Red c → Red acc → (∀ p q, c.head? = some p → acc.head? = some q → p.1 ≠ q.1) → Red ((neg c).reverseAux acc) := by
    intro c
    induction c with
    | nil => intro acc _ h _; exact h
    | cons p t ih =>
      intro acc h1 h2 h3
      refine ih ((p.1, -p.2) :: acc) h1.tail ?_ ?_
      · have hp : -p.2 ≠ 0 := by
          have := h1.head
          omega
        cases acc with
        | nil => exact hp
        | cons q acc => exact ⟨hp, h3 p q rfl rfl, h2⟩
      · intro u q hu hq
        cases hq
        cases t with
        | nil => cases hu
        | cons v t =>
          cases hu
          exact fun e => h1.2.1 e.symm
  exact this c [] hc trivial fun p q _ h => by cases h
/-! the group of all rows that are put together -/
/-- one word, another one behind it -/
def mul (a b : List (α × Int)) : List (α × Int) := joint a b.reverse
def inv (a : List (α × Int)) : List (α × Int) := (neg a).reverse
theorem red_mul {a b : List (α × Int)} (h : Red a) : Red (mul a b) := red_joint h
theorem red_inv {a : List (α × Int)} (h : Red a) : Red (inv a) := red_neg_rev h
theorem mul_assoc {a b c : List (α × Int)} (ha : Red a) (hb : Red b) : mul (mul a b) c = mul a (mul b c) := (joint_joint ha hb).symm
theorem mul_nil (a : List (α × Int)) : mul a [] = a := rfl
theorem nil_mul {a : List (α × Int)} (h : Red a) : mul [] a = a := joint_self h
theorem mul_inv {a : List (α × Int)} (h : Red a) : mul a (inv a) = [] := by
  unfold mul inv
  rw [List.reverse_reverse]
  have := joint_neg (r := ([] : List (α × Int))) trivial a
  rw [joint_self h] at this
  exact this
theorem inv_mul {a : List (α × Int)} (h : Red a) : mul (inv a) a = [] := by
  have e := joint_neg' (r := ([] : List (α × Int))) trivial a
  have : joint [] (neg a) = inv a := by
    have := joint_self (red_inv h)
    unfold inv at this ⊢
    rw [List.reverse_reverse] at this
    exact this
  rw [this] at e
  exact e
end Wm

set_option Elab.async false
set_option linter.all false
set_option maxRecDepth 100000
set_option maxHeartbeats 3200000
namespace K4
open PySem L2 Tx Tg Tm
/-! ### rows of runs on the heap -/
abbrev Row := List (Str × Int)
def PairAt (H : Hp) (y : V) (p : Str × Int) : Prop := ∃ t, y = .ref t ∧ H t = some (.tup [.str p.1, .int p.2])
abbrev PairsAt (H : Hp) (ys : List V) (l : Row) : Prop := PySem.W.EachIs (PairAt H) ys l
theorem PairsAt.same {H H' : Hp} (s : Same H H') {ys : List V} {l : Row} (h : PairsAt H ys l) : PairsAt H' ys l := h.mono fun y p ⟨t, e1, e2⟩ => ⟨t, e1, s _ _ e2⟩
theorem PairsAt.put {H : Hp} {p : Addr} {o : HO} {xs : List V} (hp : H p = some (.lst xs)) {ys : List V} {l : Row} (h : PairsAt H ys l) : PairsAt (upd H p o) ys l := h.mono fun y q ⟨t, e1, e2⟩ => ⟨t, e1, by
  rw [upd_ne fun e => ?_]
  · exact e2
  · rw [e, hp] at e2
    cases e2⟩
theorem each_app {α β : Type} {R : α → β → Prop} : ∀ {as : List α} {bs : List β} {cs : List α} {ds : List β}, PySem.W.EachIs R as bs → PySem.W.EachIs R cs ds → PySem.W.EachIs R (as ++ cs) (bs ++ ds)
  | _, _, _, _, .nil, h => h
  | _, _, _, _, .cons r rs, h => .cons r (each_app rs h)
theorem each_rev {α β : Type} {R : α → β → Prop} : ∀ {as : List α} {bs : List β}, PySem.W.EachIs R as bs → PySem.W.EachIs R as.reverse bs.reverse
  | _, _, .nil => .nil
  | _, _, .cons r rs => by
    rw [List.reverse_cons, List.reverse_cons]
    exact each_app (each_rev rs) (.cons r .nil)
/-- a tuple of pairs of a text and an int -/
def TupRow (K : PySem.W.Frag) (H : Hp) (a : Addr) (l : Row) : Prop := ∃ ys, SqT K H a ys ∧ PairsAt H ys l
theorem same_put {H H' : Hp} {D : Addr} {o : HO} (s : Same H H') (n : H D = none) : Same H (upd H' D o) := fun b u e => by
  rw [upd_ne (ne_of_none e n)]
  exact s b u e
theorem free_none {H H' : Hp} {p : Addr} (s : Same H H') (n : H' p = none) : H p = none := by
  cases hh : H p with
  | none => rfl
  | some o =>
    have := s _ _ hh
    rw [n] at this
    cases this
/-- what is left of pairs -/
def rowOf (l : Row) : Row := (Wm.joint [] l).reverse
theorem joint_take {l : Row} {i : Nat} {p : Str × Int} (h : l[i]? = some p) : Wm.joint [] (l.take (i + 1)) = Wm.push p (Wm.joint [] (l.take i)) := by
  rw [List.take_add_one, h]
  exact Wm.joint_app _ _ _
theorem joint_len : ∀ (l r : Row), (Wm.joint r l).length ≤ r.length + l.length
  | [], r => Nat.le_refl _
  | p :: l, r => by
    have h1 : (Wm.push p r).length ≤ r.length + 1 := by
      cases r with
      | nil =>
        show (if p.2 = 0 then ([] : Row) else [p]).length ≤ 1
        split <;> simp
      | cons q t =>
        show (if p.2 = 0 then q :: t else if q.1 = p.1 then (if q.2 + p.2 = 0 then t else (q.1, q.2 + p.2) :: t) else p :: q :: t).length ≤ _
        split
        · simp
        · split
          · split
            · simp; omega
            · simp
          · simp
    have h2 := joint_len l (Wm.push p r)
    show (Wm.joint (Wm.push p r) l).length ≤ _
    rw [List.length_cons]
    omega
abbrev nJoin : List Str := ["pairs", "runs", "letter", "exponent", "together"]
section
variable {P : Program} {w : World} {K : PySem.W.Frag} {mg : Str → Option Value} {base : Heap}
theorem join_tail {D : Ends} {H H2 : Hp} {p : Addr} {v0 v3 : Option V} {x : Str} {m : Int} {zs : List V} {acc res : Row} (s2 : Same H H2) (np : H p = none) (e2 : H2 p = some (.lst zs.reverse)) (hz : PairsAt H2 zs acc) (hl : acc.length ≤ 2000000)
    (hres : (if m = 0 then acc else (x, m) :: acc) = res) (q : ∀ H3 zs', Same H H3 → H3 p = some (.lst zs'.reverse) → PairsAt H3 zs' res → D.nx [v0, some (.ref p), some (.str x), v3, some (.int m)] H3) :
    tIfS (tTest (tOp rNe (tVar 4) (tC (V.int 0)))) (tDrop (tBM K "list" rAppend (tVar 1) (tCons (tTup (tCons (tVar 2) (tCons (tVar 4) tNil))) tNil))) tNext D [v0, some (.ref p), some (.str x), v3, some (.int m)] H2 := by
  refine ⟨_, rfl, rfl, _, rfl, ?_⟩
  rw [dec_int]
  by_cases hm : m = 0
  · rw [if_pos hm] at hres
    have e : (!(m == 0)) = false := by rw [hm]; rfl
    rw [e]
    rw [← hres] at q
    exact iteF (q H2 zs s2 e2 hz)
  · rw [if_neg hm] at hres
    have e : (!(m == 0)) = true := by rw [beq_eq_false_iff_ne.mpr hm]; rfl
    rw [e]
    refine iteT ?_
    refine ⟨_, rfl, .inl ⟨rfl, _, SqL.of e2⟩, _, rfl, _, rfl, by show 2 ≤ sizeLine; decide, fun pt npt => ?_⟩
    have e3 := (same_upd (o := .tup [.str x, .int m]) npt) _ _ e2
    have nPp : pt ≠ p := (ne_of_none e2 npt).symm
    refine ⟨p, _, _, rfl, rfl, e3, ?_, ?_⟩
    · rw [List.length_reverse, hz.length]
      exact Nat.lt_of_le_of_lt hl (by decide)
    · refine q _ (.ref pt :: zs) (same_put (s2.trans (same_upd npt)) np) ?_ ?_
      · rw [upd_same, List.reverse_cons]
      · rw [← hres]
        exact .cons ⟨pt, rfl, by rw [upd_ne nPp, upd_same]⟩ ((hz.same (same_upd npt)).put e3)
def spJoin (K : PySem.W.Frag) : Sp := fun vs H Q _ => ∃ (a : Addr) (l : Row), vs = [.ref a] ∧ TupRow K H a l ∧ l.length ≤ 1000000 ∧ ∀ p H' ys, H p = none → Same H H' → H' p = some (.tup ys) → PairsAt H' ys (rowOf l) → Q (.ref p) H'
theorem scJoin : FnScope nJoin ["pairs"] (defScope sJoin) := ⟨rfl, rfl, rfl, by decide +kernel, rfl, by decide +kernel, by decide +kernel⟩
theorem ok_join {f : Addr} {fd : FuncData} (F : Fun K "joined_runs" "joined_runs" sJoin f fd) (T : Txt K mg) : FnOk P w K mg base CX0 1 f fd ["pairs"] (spJoin K) := by
  refine F.ok scJoin (fun vs H Q E h => ?_) (fun cdv A outer s H vs Q E hr h => ?_)
  · obtain ⟨a, l, rfl, _⟩ := h
    rfl
  · obtain ⟨a, l, rfl, ⟨ys0, ha, hp0⟩, hl, q⟩ := h
    refine ⟨_, pss_cons (ps_set (i := 1) scJoin.nd rfl (Or.inl rfl) (pe_lst pa_nil))
      (pss_cons (ps_for PassesOwn.never rfl (pi_tup (pv 0)) (pg_tup rfl (pgs_cons (pg_name (i := 2) scJoin.nd rfl (Or.inl rfl)) (pgs_cons (pg_name (i := 3) scJoin.nd rfl (Or.inl rfl)) pgs_nil)))
        (pss_cons (ps_set (i := 4) scJoin.nd rfl (Or.inl rfl) (pv 3))
        (pss_cons (ps_if (PW.pt (pw_and (pt_truth (pv 1) (by intro _; rfl)) (pw_and1 (pt_cmpR op_eq (pe_ix ix_tup (pe_ix ix_list (pv 1) (pe_un un_neg pe_int) (fun _ _ => rfl)) pe_int (fun _ _ => rfl)) (pv 2) (nomark _)))))
          (pss_one (ps_set (i := 4) scJoin.nd rfl (Or.inl rfl) (pe_op op_add (pv 3) (pe_ix ix_tup (pe_bm0 PySem.F.plainAttrs_list PySem.F.slot_list_pop PySem.F.type_list_pop mt_pop (pv 1)) pe_int (fun _ _ => rfl))))) pss_nil)
        (pss_one (ps_if (pt_cmpR op_ne (pv 4) pe_int (nomark _)) (pss_one (ps_expr (pe_bm PySem.F.plainAttrs_list PySem.F.slot_list_append PySem.F.type_list_append mt_append (pv 1) (pa_cons (pe_tup (pa_cons (pv 2) (pa_cons (pv 4) pa_nil))) pa_nil)))) pss_nil)))))
      (pss_one (ps_ret (pe_callTy call_tuple_of (by rfl) T.tuple (by decide +kernel) (pa_cons (pv 1) pa_nil))))), ?_⟩
    refine ⟨by decide, fun p np => ?_⟩
    have s0 : Same H (upd H p (.lst [])) := same_upd np
    have sT : ∀ {H'}, Same H H' → SqT K H' a ys0 := fun s => by
      rcases ha with h | h
      · rcases h with h | ⟨o, h⟩
        · exact .inl (.inl (s _ _ h))
        · exact .inl (.inr ⟨o, s _ _ h⟩)
      · exact .inr h
    have hlen : ys0.length = l.length := hp0.length
    refine ⟨_, rfl, a, rfl, ⟨_, sT s0⟩, ?_⟩
    refine for_tup (xs := ys0) (fun i σ H1 => ∃ (t2 t3 t4 : Option V) (zs : List V), σ = [some (.ref a), some (.ref p), t2, t3, t4] ∧ Same H H1 ∧ H1 p = some (.lst zs.reverse) ∧ PairsAt H1 zs (Wm.joint [] (l.take i)))
      ⟨none, none, none, [], rfl, s0, upd_same, .nil⟩ (fun i σ H1 _ z => by obtain ⟨_, _, _, _, _, s, _⟩ := z; exact sT s) ?_ ?_
    · rintro i x σ H1 hx ⟨t2, t3, t4, zs, rfl, s1, e1, hz⟩
      have hi := (List.getElem?_eq_some_iff.mp hx).1
      have hi' : i < l.length := by omega
      obtain ⟨t, rfl, et⟩ : PairAt H x l[i] := hp0.zip (x, l[i]) (List.mem_of_getElem? (i := i) (by rw [List.getElem?_zip_eq_some]; exact ⟨hx, List.getElem?_eq_getElem hi'⟩))
      rw [joint_take (List.getElem?_eq_getElem hi')]
      have hred : Wm.Red (Wm.joint [] (l.take i)) := Wm.red_joint (r := ([] : Row)) trivial
      have hjl : (Wm.joint [] (l.take i)).length ≤ i := by
        have := joint_len (l.take i) []
        rw [List.length_take, List.length_nil] at this
        omega
      have hzl := hz.length
      generalize l[i] = pr at et ⊢
      generalize Wm.joint [] (l.take i) = acc at hz hred hjl hzl ⊢
      refine ⟨t, _, rfl, SqT.of (s1 _ _ et), rfl, _, _, rfl, _, _, rfl, rfl, ?_⟩
      refine ⟨_, rfl, ?_⟩
      have hres : ∀ {m : Int} {c r : Row}, (if m = 0 then c else (pr.1, m) :: c) = r → (if m = 0 then c else (pr.1, m) :: c) = r := fun h => h
      cases hz with
      | nil =>
        refine ⟨_, rfl, false, .inl ⟨_, SqL.of e1, rfl⟩, iteF ?_⟩
        exact join_tail (acc := []) s1 np e1 .nil (Nat.zero_le _) rfl fun H3 zs' a1 a2 a3 => ⟨_, _, _, zs', rfl, a1, a2, a3⟩
      | @cons z c zs' acc' hzc hz' =>
        have hb : (z :: zs').reverse = zs'.reverse ++ [z] := List.reverse_cons ..
        obtain ⟨tz, rfl, etz⟩ := hzc
        have hne : (!((V.ref tz :: zs').reverse).isEmpty) = true := by rw [hb]; simp
        refine ⟨_, rfl, true, .inl ⟨_, SqL.of e1, hne.symm⟩, iteT ?_⟩
        refine ⟨_, rfl, _, rfl, p, _, _, .ref tz, rfl, rfl, SqL.of e1, by rw [hb]; exact atI_last _ _, tz, _, _, .str c.1, rfl, rfl, SqT.of etz, rfl, _, rfl, rfl, _, rfl, ?_⟩
        have hs : decide (V.str c.1 = V.str pr.1) = decide (c.1 = pr.1) := decide_eq_decide.mpr ⟨fun e => by injection e, fun e => by rw [e]⟩
        rw [hs]
        have hcl : acc'.length ≤ 1000000 := by
          rw [List.length_cons] at hjl
          omega
        by_cases hc : c.1 = pr.1
        · rw [decide_eq_true hc]
          refine iteT ?_
          refine ⟨_, rfl, _, rfl, .inl ⟨rfl, _, SqL.of e1⟩, p, _, .ref tz, rfl, rfl, e1, ?_, ?_⟩
          · rw [hb, List.length_append, List.length_singleton, Nat.add_sub_cancel, List.getElem?_append_right (Nat.le_refl _), Nat.sub_self]
            rfl
          have hd : ((V.ref tz :: zs').reverse).dropLast = zs'.reverse := by rw [hb, List.dropLast_concat]
          rw [hd]
          have ntp : tz ≠ p := fun e => by
            rw [e, e1] at etz
            cases etz
          refine ⟨tz, _, _, .int c.2, rfl, rfl, SqT.of (by rw [upd_ne ntp]; exact etz), rfl, _, _, rfl, rfl, ?_⟩
          refine join_tail (acc := acc') (same_put s1 np) np upd_same (PairsAt.put e1 hz') (by omega) ?_ fun H3 zs'' a1 a2 a3 => ⟨_, _, _, zs'', rfl, a1, a2, a3⟩
          show _ = (if pr.2 = 0 then c :: acc' else if c.1 = pr.1 then (if c.2 + pr.2 = 0 then acc' else (c.1, c.2 + pr.2) :: acc') else pr :: c :: acc')
          have hc2 : c.2 ≠ 0 := hred.head
          have ea : pr.2 + c.2 = c.2 + pr.2 := Int.add_comm _ _
          rw [ea]
          by_cases h0 : pr.2 = 0
          · rw [if_pos h0, h0, Int.add_zero, if_neg hc2, ← hc]
          · rw [if_neg h0, if_pos hc, hc]
        · rw [decide_eq_false hc]
          refine iteF ?_
          refine join_tail (acc := c :: acc') s1 np e1 (.cons ⟨tz, rfl, etz⟩ hz') (by rw [List.length_cons]; omega) ?_ fun H3 zs'' a1 a2 a3 => ⟨_, _, _, zs'', rfl, a1, a2, a3⟩
          show _ = (if pr.2 = 0 then c :: acc' else if c.1 = pr.1 then _ else pr :: c :: acc')
          rw [if_neg hc]
    · rintro σ H1 ⟨t2, t3, t4, zs, rfl, s1, e1, hz⟩
      have et : l.take ys0.length = l := List.take_of_length_le (by omega)
      rw [et] at hz
      refine ⟨_, rfl, p, _, rfl, .inl ⟨SqL.of e1, fun pl npl => ?_⟩⟩
      exact q pl _ _ (free_none s1 npl) (s1.trans (same_upd npl)) upd_same (PairsAt.same (same_upd npl) (each_rev hz))
end
end K4

set_option Elab.async false
set_option linter.all false
set_option maxRecDepth 100000
set_option maxHeartbeats 3200000
/-! a tuple backwards: t[::-1] -/
namespace K4
open PySem PySem.Spec PyProof.Rows L2 Tx Tg Tm
theorem back_adjust (n : Nat) : Builtin.Slice.sliceAdjust none none (-1) (n : Int) = ((n : Int) - 1, -1) := rfl
theorem back_places (n : Nat) : Builtin.Slice.slicePlaces ((n : Int) - 1) (-1) (-1) = n := by
  show (if (-1 : Int) > 0 then _ else (if (n : Int) - 1 > -1 then ((n : Int) - 1 - -1 - 1) / (- -1) + 1 else 0)).toNat = n
  rw [if_neg (by decide)]
  by_cases h : (n : Int) - 1 > -1
  · rw [if_pos h]
    have e : ((n : Int) - 1 - -1 - 1) / (- -1) = (n : Int) - 1 := by
      rw [show (- -1 : Int) = 1 by decide, Int.ediv_one]
      omega
    rw [e]
    omega
  · rw [if_neg h]
    omega
theorem fm_congr {α β : Type} {f g : α → Option β} : ∀ {l : List α}, (∀ x ∈ l, f x = g x) → l.filterMap f = l.filterMap g
  | [], _ => rfl
  | x :: l, h => by
    rw [List.filterMap_cons, List.filterMap_cons, h x List.mem_cons_self, fm_congr fun y hy => h y (List.mem_cons_of_mem _ hy)]
theorem back_pick (xs : Array Value) : ((List.range xs.size).filterMap fun (k : Nat) => xs[((xs.size : Int) - 1 + (k : Int) * -1).toNat]?).toArray = xs.toList.reverse.toArray := by
  have e : (List.range xs.size).filterMap (fun (k : Nat) => xs[((xs.size : Int) - 1 + (k : Int) * -1).toNat]?) = (List.range xs.size).reverse.filterMap (xs[·]?) := by
    rw [← PySem.W.krv_range, List.filterMap_map]
    refine fm_congr fun k hk => ?_
    have := List.mem_range.mp hk
    have en : ((xs.size : Int) - 1 + (k : Int) * -1).toNat = xs.size - 1 - k := by omega
    show xs[_]? = xs[xs.size - 1 - k]?
    rw [en]
  rw [e, List.filterMap_reverse, PySem.W.krv_all]
section
variable {prog : Program} {w : World} {A : Around} {E : Value → Shared → Prop} {s : Shared}
theorem tup_back {t sl : Addr} {items : Array Value} {vs : Value} {Q : Value → Shared → Prop} (ht : IsTup s.heap t items) (hs : s.heap.IsSliceOf sl .none .none vs) (ps : IsPart vs (some (-1))) (hsz : items.size ≤ sizeLine)
    (h : Q (.ref s.heap.objs.size) { s with heap := s.heap.push { cls := .type "tuple", data := .seq items.toList.reverse.toArray } }) : wpAny (model prog w) A (getItem (.ref t) (.ref sl)) Q E s := by
  obtain ⟨os, hos, hcs, hds⟩ := id hs
  have tS : s.TypeIs (.ref sl) "slice" := ⟨os, hos, hcs⟩
  have big : sizeOk (.seq items.toList.reverse.toArray) := by
    show items.toList.reverse.toArray.size ≤ sizeLine
    rw [List.size_toArray, List.length_reverse, Array.length_toList]
    exact hsz
  have applied : ∀ {R : Int × Int × Nat → Shared → Prop} {E' : Value → Shared → Prop} {B : Around}, R ((items.size : Int) - 1, -1, items.size) s → wpAny (model prog w) B (Builtin.Slice.sliceApplied (.ref sl) (pure (items.size : Int))) R E' s := by
    intro R E' B hR
    unfold Builtin.Slice.sliceApplied Builtin.Slice.sliceFields
    refine wpAny_bind (wpAny_bind (wpAny_field hos hds (x := .none) rfl (wpAny_bind (wpAny_field hos hds (x := .none) rfl (wpAny_bind (wpAny_field hos hds (x := vs) rfl (wpAny_pure ?_)))))))
    refine wpAny_bind (HT.slicePart_ ps ?_)
    show wpAny _ _ (if ((-1 : Int) == 0) = true then _ else _) _ _ s
    rw [if_neg (by decide)]
    refine wpAny_bind (HT.slicePart_ .none (wpAny_bind (HT.slicePart_ .none (wpAny_bind (wpAny_pure ?_)))))
    show wpAny _ _ (match Builtin.Slice.sliceAdjust none none (-1) (items.size : Int) with | (lo, hi) => pure (lo, (-1 : Int), Builtin.Slice.slicePlaces lo hi (-1))) _ _ s
    rw [back_adjust]
    show wpAny _ _ (pure ((items.size : Int) - 1, (-1 : Int), Builtin.Slice.slicePlaces ((items.size : Int) - 1) (-1) (-1))) _ _ s
    rw [back_places]
    exact wpAny_pure hR
  unfold getItem
  try with_reducible refine wpAny_holding ?_
  first | refine wpAny_bind (wpAny_pure ?_) | skip
  refine wpAny_bind (wpAny_sequenceKey ht.typeIs (by decide) (wpAny_bind (wpAny_callSpecial?_slot (name := Str.ofString "__getitem__") ht.typeIs PyProof.Rows.slot_tuple_getitem
    (wpAny_call_entry PyProof.Rows.slot_tuple_getitem ht.typeIs entry_tuple_getitem ?_ (args_tuple_getitem _ _)))))
  show wpAny _ _ (Builtin.Tuple.tupleItemsOf (.ref t) >>= _) _ _ s
  refine wpAny_bind (tupleItemsOf_ ht (wpAny_bind (wpAny_typeOf tS ?_)))
  rw [if_pos (by decide)]
  refine wpAny_bind (applied ?_)
  have no : ¬ ((((items.size : Int) - 1) == 0 && (-1 : Int) == 1 && items.size == items.size) = true) := by
    rw [Bool.and_eq_true, Bool.and_eq_true]
    exact fun q => absurd q.1.2 (by decide)
  show wpAny _ _ (if (((items.size : Int) - 1) == 0 && (-1 : Int) == 1 && items.size == items.size) = true then _ else _) _ _ s
  rw [if_neg no, back_pick]
  first
    | exact wpAny_bind (m := Builtin.Tuple.tupleExact _) (wpAny_newObj_type (wpAny_pure ⟨_, rfl, wpAny_pure h⟩) big)
    | exact wpAny_bind (m := Builtin.Tuple.tupleExact _) (wpAny_newObj_type (wpAny_bind (wpAny_pure (wpAny_pure ⟨_, rfl, wpAny_pure h⟩))) big)
    | exact wpAny_bind (wpAny_bind (m := Builtin.Tuple.tupleExact _) (wpAny_newObj_type (wpAny_pure (wpAny_pure ⟨_, rfl, wpAny_pure h⟩)) big))
    | exact wpAny_bind (wpAny_bind (m := Builtin.Tuple.tupleExact _) (wpAny_newObj_type (wpAny_pure ⟨_, rfl, wpAny_pure h⟩) big))
end
section
variable {X : Cx}
def tBackT (K : PySem.W.Frag) (te : TE) : TE := fun σ H Q => te σ H fun x H1 => ∃ a xs, x = .ref a ∧ SqT K H1 a xs ∧ ∀ p, H1 p = none → Q (.ref p) (upd H1 p (.tup xs.reverse))
theorem pe_backT {e : Expr} {te : TE} {k : Nat} {p1 p2 p3 pos : Pos} (he : PE X e te) : PE X (.Subscript e (.Slice none none (some (.UnaryOp .USub (.Constant (.int 1) k p1) p2)) p3) pos) (tBackT X.K te) := by
  refine ⟨fun pins s σ H Q I h => Subscript_ (thn (he.run pins s σ H _ I h) fun v s1 ⟨x, H1, I1, r1, a, xs, ex, hx, q⟩ => ?_)⟩
  subst ex
  cases r1
  have minus : PO X (some (.UnaryOp .USub (.Constant (.int 1) k p1) p2)) (tPart (tUn (rU fun i => .int (-i)) (tC (.int 1)))) := po_some (pe_un un_neg pe_int)
  refine wpAny_Slice (thn (po_none.run pins s1 σ H1 (fun o H2 => o = none ∧ H2 = H1) I1 ⟨rfl, rfl⟩) fun vl s2 ⟨l, H2, I2, pl, el, e2⟩ => ?_)
  subst el e2
  refine thn (po_none.run pins s2 σ H2 (fun o H3 => o = none ∧ H3 = H2) I2 ⟨rfl, rfl⟩) fun vu s3 ⟨u, H3, I3, pu, eu, e3⟩ => ?_
  subst eu e3
  refine thn (minus.run pins s3 σ H3 (fun o H4 => o = some (-1) ∧ H4 = H3) I3 ⟨1, rfl, -1, rfl, rfl, rfl⟩) fun vs s4 ⟨o, H4, I4, ps, eo, e4⟩ => ?_
  subst eo e4
  have I5 : Inv X pins σ H4 { s4 with heap := s4.heap.push { cls := .type "slice", data := .fields #[vl, vu, vs] } } := I4.kept (t' := s4.toks) fun b ob q => Heap.get?_push_of_some _ q
  obtain ⟨its, r, ht, hz⟩ := I5.tuple hx
  have hlen := r.length
  cases pl
  cases pu
  show wpAny (model X.prog X.w) X.A (subscriptTail e (.Slice none none (some (.UnaryOp .USub (.Constant (.int 1) k p1) p2)) p3) (.ref a) (.ref s4.heap.objs.size)) (EP X pins σ Q) X.xe { s4 with heap := s4.heap.push { cls := .type "slice", data := .fields #[.none, .none, vs] } }
  refine tail_any (ops := [.ref a, .ref s4.heap.objs.size]) ht.typeIs PyProof.Rows.slot_tuple_getitem.lookup ?_ (by with_unfolding_all rfl)
  refine tup_back ht (Heap.IsSliceOf.new _ .none .none vs) ps (by rw [List.size_toArray]; omega) ?_
  refine ⟨.ref _, _, I5.laid (t' := s4.toks) (o := .tup xs.reverse) (fun b ob q => Heap.get?_push_of_some _ q) (Nat.le_refl _) ?_, rfl, q _ (I5.hok.fresh (Nat.le_refl _))⟩
  exact ⟨by rw [List.length_reverse]; exact hz, _, r.reverse, IsTup.new _ _⟩
end
end K4

set_option Elab.async false
set_option linter.all false
set_option maxRecDepth 100000
set_option maxHeartbeats 3200000
namespace K4
open PySem L2 Tx Tg Tm
theorem TupRow.same {K : PySem.W.Frag} {H H' : Hp} {a : Addr} {l : Row} (s : Same H H') (h : TupRow K H a l) : TupRow K H' a l := by
  obtain ⟨ys, ha, hp⟩ := h
  refine ⟨ys, ?_, hp.same s⟩
  rcases ha with h | h
  · rcases h with h | ⟨o, h⟩
    · exact .inl (.inl (s _ _ h))
    · exact .inl (.inr ⟨o, s _ _ h⟩)
  · exact .inr h
theorem TupRow.new {K : PySem.W.Frag} {H : Hp} {a : Addr} {ys : List V} {l : Row} (h : H a = some (.tup ys)) (p : PairsAt H ys l) : TupRow K H a l := ⟨ys, SqT.of h, p⟩
/-- behind one another -/
def rCatRow (K : PySem.W.Frag) : R2 := fun x y H Q => ∃ a b l k, x = .ref a ∧ y = .ref b ∧ TupRow K H a l ∧ TupRow K H b k ∧ l.length + k.length ≤ 10000000 ∧ ∀ p H', Same H H' → TupRow K H' p (l ++ k) → Q (.ref p) H'
theorem op_catRow {X : Cx} : OpR X (binaryOp .Add) (rCatRow X.K) := by
  intro pins s σ H x y v u Q I rx ry h
  obtain ⟨a, b, l, k, rfl, rfl, ⟨xs, hx, px⟩, ⟨ys, hy, py⟩, hl, q⟩ := h
  refine op_catA pins s σ H _ _ v u Q I rx ry ⟨a, b, xs, ys, rfl, rfl, hx, hy, ?_, fun e => ?_, fun _ e => ?_, fun _ _ p np => ?_⟩
  · rw [px.length, py.length]
    exact Nat.le_trans hl (by decide)
  · subst e
    cases px
    exact q b H (Same.refl H) ⟨ys, hy, py⟩
  · subst e
    cases py
    rw [List.append_nil] at q
    exact q a H (Same.refl H) ⟨xs, hx, px⟩
  · exact q p _ (same_upd np) (.new upd_same (PairsAt.same (same_upd np) (each_app px py)))
/-- the word undone, the first run ahead -/
def undo (l : Row) : Row := (Wm.neg l).reverse
theorem undo_eq (l : Row) : undo l = l.reverse.map fun p => (p.1, -p.2) := by
  unfold undo Wm.neg
  rw [List.map_reverse]
theorem undo_len (l : Row) : (undo l).length = l.length := by
  rw [undo_eq, List.length_map, List.length_reverse]
theorem rowOf_len (l : Row) : (rowOf l).length ≤ l.length := by
  unfold rowOf
  rw [List.length_reverse]
  have := joint_len l []
  rw [List.length_nil] at this
  omega
section
variable {P : Program} {w : World} {K : PySem.W.Frag} {mg : Str → Option Value} {base : Heap}
def spRow1 (K : PySem.W.Frag) (g : Row → Row) : Sp := fun vs H Q _ => ∃ (a : Addr) (l : Row), vs = [.ref a] ∧ TupRow K H a l ∧ l.length ≤ 1000000 ∧ ∀ p H', Same H H' → TupRow K H' p (g l) → Q (.ref p) H'
theorem ok_join' {f : Addr} {fd : FuncData} (F : Fun K "joined_runs" "joined_runs" sJoin f fd) (T : Txt K mg) : FnOk P w K mg base CX0 1 f fd ["pairs"] (spRow1 K rowOf) :=
  (ok_join F T).imp fun vs H Q E h => by
    obtain ⟨a, l, rfl, hr, hl, q⟩ := h
    exact ⟨a, l, rfl, hr, hl, fun p H' ys _ s e hp => q p H' s (.new e hp)⟩
theorem scUndo : FnScope ["runs", "letter", "exponent"] ["runs"] (defScope sUndo) := ⟨rfl, rfl, rfl, by decide +kernel, rfl, by decide +kernel, by decide +kernel⟩
/-- the step of both: the comprehension's invariant -/
def UInv (K : PySem.W.Frag) (H2 : Hp) (D : Addr) (l : Row) (i : Nat) (H3 : Hp) : Prop := Same H2 H3 ∧ ∃ zs, H3 D = some (.lst zs) ∧ PairsAt H3 zs ((l.reverse.take i).map fun p => (p.1, -p.2))
theorem ustep {K : PySem.W.Frag} {H2 H3 : Hp} {D : Addr} {l : Row} {i : Nat} {pr : Str × Int} (hD : H2 D = none) (h : UInv K H2 D l i H3) (hi : l.reverse[i]? = some pr) (hl : l.length ≤ 1000000) {pt : Addr} (npt : H3 pt = none) :
    ∃ acc, (upd H3 pt (.tup [.str pr.1, .int (-pr.2)])) D = some (.lst acc) ∧ acc.length < sizeLine ∧ UInv K H2 D l (i + 1) (upd (upd H3 pt (.tup [.str pr.1, .int (-pr.2)])) D (.lst (acc ++ [.ref pt]))) := by
  obtain ⟨s3, zs, e3, hz⟩ := h
  have e4 := (same_upd (o := .tup [.str pr.1, .int (-pr.2)]) npt) _ _ e3
  have nPD : pt ≠ D := (ne_of_none e3 npt).symm
  refine ⟨zs, e4, ?_, same_put (s3.trans (same_upd npt)) hD, zs ++ [.ref pt], upd_same, ?_⟩
  · rw [hz.length, List.length_map, List.length_take, List.length_reverse]
    exact Nat.lt_of_le_of_lt (show _ ≤ 1000000 by omega) (by decide)
  · rw [List.take_add_one, hi, List.map_append]
    exact each_app (PairsAt.put e4 (PairsAt.same (same_upd npt) hz)) (.cons ⟨pt, rfl, by rw [upd_ne nPD, upd_same]⟩ .nil)
theorem ok_undone {f : Addr} {fd : FuncData} (F : Fun K "undone_runs" "undone_runs" sUndo f fd) (T : Txt K mg) : FnOk P w K mg base CX0 1 f fd ["runs"] (spRow1 K undo) := by
  refine F.ok scUndo (fun vs H Q E h => ?_) (fun cdv A outer s H vs Q E hr h => ?_)
  · obtain ⟨a, l, rfl, _⟩ := h
    rfl
  · obtain ⟨a, l, rfl, ⟨ys, ha, hp⟩, hl, q⟩ := h
    refine ⟨_, pss_one (ps_ret (pe_callTy call_tuple_of (by rfl) T.tuple (by decide +kernel) (pa_cons (pe_lc (own := [("letter", 1), ("exponent", 2)]) (g := gTup K 2 (gCons (gName 1) (gCons (gName 2) gNil))) (tt := tYes) rfl scUndo.nd (pi_tup (pe_backT (pv 0)))
      (blkOk_by (own := [("letter", 1), ("exponent", 2)]) (N := ["runs", "letter", "exponent"]) (sc := defScope sUndo) (by decide +kernel))
      (fun _ _ _ _ _ => pg_tup rfl (pgs_cons (pg_name (i := 1) scUndo.nd rfl (Or.inl rfl)) (pgs_cons (pg_name (i := 2) scUndo.nd rfl (Or.inl rfl)) pgs_nil))) (fun _ _ _ _ _ => pts_nil)
      (fun _ _ _ _ _ => pe_tup (pa_cons (pv 1) (pa_cons (pe_un un_neg (pv 2)) pa_nil)))) pa_nil))), ?_⟩
    refine ⟨_, rfl, a, ys, rfl, ha, fun pb npb => ?_⟩
    have s1 := same_upd (o := .tup ys.reverse) npb
    have e1 : (upd H pb (.tup ys.reverse)) pb = some (.tup ys.reverse) := upd_same
    have hp1 : PairsAt (upd H pb (.tup ys.reverse)) ys.reverse l.reverse := PairsAt.same s1 (each_rev hp)
    generalize upd H pb (.tup ys.reverse) = H1 at s1 e1 hp1
    refine ⟨pb, rfl, ⟨_, SqT.of e1⟩, fun D hD => ?_⟩
    have hlr : ys.reverse.length = l.length := by rw [hp1.length, List.length_reverse]
    refine lc_tup (xs := ys.reverse) (UInv K H1 D l) ⟨same_upd hD, [], upd_same, .nil⟩ (fun i H2 _ z => SqT.of (z.1 _ _ e1)) ?_ ?_
    · rintro i x H2 hx hinv
      have hi := (List.getElem?_eq_some_iff.mp hx).1
      have hi' : i < l.reverse.length := by rw [List.length_reverse]; omega
      obtain ⟨t, rfl, et⟩ : PairAt H1 x l.reverse[i] := hp1.zip (x, l.reverse[i]) (List.mem_of_getElem? (i := i) (by rw [List.getElem?_zip_eq_some]; exact ⟨hx, List.getElem?_eq_getElem hi'⟩))
      refine ⟨t, _, rfl, SqT.of (hinv.1 _ _ et), rfl, _, _, rfl, _, _, rfl, rfl, rfl, iteT (B := UInv K H1 D l (i + 1) H2) ?_⟩
      refine ⟨_, rfl, _, rfl, _, rfl, by show 2 ≤ sizeLine; decide, fun pt npt => ?_⟩
      exact ustep hD hinv (List.getElem?_eq_getElem hi') hl npt
    · rintro H2 ⟨s2, zs, e2, hz⟩
      have et : l.reverse.take ys.reverse.length = l.reverse := List.take_of_length_le (by rw [hlr, List.length_reverse]; exact Nat.le_refl _)
      rw [et, ← undo_eq] at hz
      refine ⟨D, _, rfl, .inl ⟨SqL.of e2, fun pl npl => ?_⟩⟩
      exact q pl _ ((s1.trans s2).trans (same_upd npl)) (.new upd_same (PairsAt.same (same_upd npl) hz))
end
end K4

set_option Elab.async false
set_option linter.all false
set_option maxRecDepth 100000
set_option maxHeartbeats 3200000
namespace K4
open PySem L2 Tx Tg Tm
/-! ### rows as data -/
def rowD (p : Str × Int) : PyData := .tuple [.str p.1, .int p.2]
abbrev rowsD (l : Row) : List PyData := l.map rowD
def Pl (l : Row) : Prop := ∀ p ∈ l, ∀ c ∈ cds p.1, c < 128
theorem rows_all {K : PySem.W.Frag} {H : Hp} : ∀ {ys : List V} {l : Row}, PairsAt H ys l → DpAll K H ys (rowsD l)
  | _, _, .nil => .nil
  | _, _, .cons ⟨t, e1, e2⟩ h => by
    subst e1
    exact .cons (.tup (SqT.of e2) (.cons (.str _) (.cons (.int _) .nil))) (rows_all h)
theorem lay_flat : ∀ ds : List PyData, (∀ d ∈ ds, d.canLay0 = true) → PyData.canLayAll0 ds = true
  | [], _ => rfl
  | d :: ds, h => by
    show (d.canLay0 && PyData.canLayAll0 ds) = true
    rw [h d List.mem_cons_self, lay_flat ds fun e he => h e (List.mem_cons_of_mem _ he)]
    rfl
theorem deep_flat : ∀ (n : Nat) (ds : List PyData), (∀ d ∈ ds, d.depth ≤ n) → PyData.depthAll ds ≤ n
  | _, [], _ => Nat.zero_le _
  | n, d :: ds, h => by
    show max d.depth (PyData.depthAll ds) ≤ n
    exact Nat.max_le.mpr ⟨h d List.mem_cons_self, deep_flat n ds fun e he => h e (List.mem_cons_of_mem _ he)⟩
theorem row_lay {p : Str × Int} (h : ∀ c ∈ cds p.1, c < 128) : (rowD p).canLay0 = true := by
  have e : PyData.canLay0 (.str p.1) = true := by
    show p.1.cps.all (· < 0x110000) = true
    rw [Array.all_eq_true_iff_forall_mem]
    intro c hc
    have := h c (Array.mem_toList_iff.mpr hc)
    exact decide_eq_true (by omega)
  show (PyData.canLay0 (.str p.1) && (true && true)) = true
  rw [e]
  rfl
theorem row_lays {l : Row} (h : Pl l) : (PyData.tuple (rowsD l)).canLay0 = true := lay_flat _ fun d hd => by
  obtain ⟨p, hp, rfl⟩ := List.mem_map.mp hd
  exact row_lay (h p hp)
theorem row_deep (l : Row) : (PyData.tuple (rowsD l)).depth ≤ 2 := by
  show PyData.depthAll (rowsD l) + 1 ≤ 2
  have := deep_flat 1 (rowsD l) fun d hd => by
    obtain ⟨p, _, rfl⟩ := List.mem_map.mp hd
    exact Nat.le_refl 1
  omega
theorem shaped_row {l : Row} (h : Pl l) : SeqAt.shaped (.tuple (rowsD l)) = true := by
  unfold SeqAt.shaped
  rw [Bool.and_eq_true]
  exact ⟨row_lays h, decide_eq_true (Nat.le_trans (row_deep l) (by decide))⟩
theorem eqv_nil : ∀ l : Row, PyData.eqv (.tuple (rowsD l)) (.tuple []) = decide (l = [])
  | [] => rfl
  | _ :: _ => rfl
theorem pl_push {p : Str × Int} {l : Row} (hp : ∀ c ∈ cds p.1, c < 128) (h : Pl l) : Pl (Wm.push p l) := by
  intro q hq
  cases l with
  | nil =>
    have hq' : q ∈ (if p.2 = 0 then ([] : Row) else [p]) := hq
    split at hq'
    · cases hq'
    · rw [List.mem_singleton.mp hq']
      exact hp
  | cons u t =>
    have hq' : q ∈ (if p.2 = 0 then u :: t else if u.1 = p.1 then (if u.2 + p.2 = 0 then t else (u.1, u.2 + p.2) :: t) else p :: u :: t) := hq
    split at hq'
    · exact h q hq'
    · split at hq'
      · split at hq'
        · exact h q (List.mem_cons_of_mem _ hq')
        · rcases List.mem_cons.mp hq' with rfl | hq'
          · exact h u List.mem_cons_self
          · exact h q (List.mem_cons_of_mem _ hq')
      · rcases List.mem_cons.mp hq' with rfl | hq'
        · exact hp
        · exact h q hq'
theorem pl_joint : ∀ {l r : Row}, Pl r → Pl l → Pl (Wm.joint r l)
  | [], _, h, _ => h
  | p :: l, r, h, hl => pl_joint (l := l) (pl_push (hl p List.mem_cons_self) h) fun q hq => hl q (List.mem_cons_of_mem _ hq)
theorem pl_rev {l : Row} (h : Pl l) : Pl l.reverse := fun p hp => h p (List.mem_reverse.mp hp)
theorem pl_undo {l : Row} (h : Pl l) : Pl (undo l) := fun p hp => by
  rw [undo_eq] at hp
  obtain ⟨q, hq, rfl⟩ := List.mem_map.mp hp
  exact h q (List.mem_reverse.mp hq)
/-- one more run behind a row, forward -/
def putL (l : Row) (p : Str × Int) : Row := (Wm.push p l.reverse).reverse
def jointL (l k : Row) : Row := (Wm.joint l.reverse k).reverse
theorem jointL_cons (l : Row) (p : Str × Int) (k : Row) : jointL l (p :: k) = jointL (putL l p) k := by
  unfold jointL putL
  rw [List.reverse_reverse]
  rfl
theorem jointL_take {l k : Row} {i : Nat} {p : Str × Int} (h : k[i]? = some p) : jointL l (k.take (i + 1)) = putL (jointL l (k.take i)) p := by
  unfold jointL putL
  rw [List.take_add_one, h, List.reverse_reverse, Wm.joint_app]
  rfl
theorem jointL_len (l k : Row) : (jointL l k).length ≤ l.length + k.length := by
  unfold jointL
  rw [List.length_reverse]
  have := joint_len k l.reverse
  rw [List.length_reverse] at this
  exact this
theorem six_last (n d : Nat) : HT.sIx n d (some (-1)) = ((-1 : Int) + (n : Int)).toNat := by
  show (if (-1 : Int) < 0 then ((-1 : Int) + (n : Int)).toNat else min (-1 : Int).toNat n) = _
  exact if_pos (by decide)
theorem cut_last (xs : List V) (z : V) : cutV (xs ++ [z]) none (some (-1)) = xs := by
  unfold cutV
  have e1 : HT.sIx (xs ++ [z]).length 0 none = 0 := rfl
  have e2 : HT.sIx (xs ++ [z]).length (xs ++ [z]).length (some (-1)) = xs.length := by
    rw [six_last, List.length_append, List.length_singleton]
    omega
  rw [e1, e2, List.drop_zero, Nat.sub_zero, List.take_left]
section
variable {P : Program} {w : World} {K : PySem.W.Frag} {mg : Str → Option Value} {base : Heap}
theorem SqT.of_row {H H' : Hp} {a : Addr} {ys : List V} (s : Same H H') (h : SqT K H a ys) : SqT K H' a ys := by
  rcases h with h | h
  · rcases h with h | ⟨o, h⟩
    · exact .inl (.inl (s _ _ h))
    · exact .inl (.inr ⟨o, s _ _ h⟩)
  · exact .inr h
theorem each_split {α β : Type} {R : α → β → Prop} {c : β} : ∀ {ys : List α} {l : List β}, PySem.W.EachIs R ys (l ++ [c]) → ∃ ys' y, ys = ys' ++ [y] ∧ PySem.W.EachIs R ys' l ∧ R y c
  | _, [], h => by
    cases h with
    | cons r h =>
      cases h
      exact ⟨[], _, rfl, .nil, r⟩
  | _, b :: l, h => by
    cases h with
    | cons r h =>
      obtain ⟨ys', y, rfl, h1, h2⟩ := each_split h
      exact ⟨_ :: ys', y, rfl, .cons r h1, h2⟩
/-- a row with one run written behind it -/
theorem cat_one {H : Hp} {a : Addr} {l : Row} {x : Str} {m : Int} {Q : VK} (hr : TupRow K H a l) (hl : l.length ≤ 1000000) (q : ∀ p H', Same H H' → TupRow K H' p (l ++ [(x, m)]) → Q (.ref p) H') {pt pq : Addr} (npt : H pt = none)
    (npq : (upd H pt (.tup [.str x, .int m])) pq = none) : rCatRow K (.ref a) (.ref pq) (upd (upd H pt (.tup [.str x, .int m])) pq (.tup [.ref pt])) Q := by
  have s1 := same_upd (o := .tup [.str x, .int m]) npt
  have s2 := same_upd (o := .tup [.ref pt]) npq
  refine ⟨a, pq, l, [(x, m)], rfl, rfl, hr.same (s1.trans s2), .new upd_same (.cons ⟨pt, rfl, s2 _ _ upd_same⟩ .nil), ?_, fun p H' s h => q p H' ((s1.trans s2).trans s) h⟩
  rw [List.length_singleton]
  omega
theorem putL_nil {p : Str × Int} (h : p.2 ≠ 0) : putL [] p = [p] := by
  unfold putL
  have : Wm.push p ([] : Row) = [p] := if_neg h
  show (Wm.push p []).reverse = [p]
  rw [this]
  rfl
theorem putL_last {l : Row} {c p : Str × Int} (h : p.2 ≠ 0) : putL (l ++ [c]) p = if c.1 = p.1 then (if c.2 + p.2 = 0 then l else l ++ [(c.1, c.2 + p.2)]) else l ++ [c] ++ [p] := by
  unfold putL
  rw [List.reverse_append]
  show (if p.2 = 0 then c :: l.reverse else if c.1 = p.1 then (if c.2 + p.2 = 0 then l.reverse else (c.1, c.2 + p.2) :: l.reverse) else p :: c :: l.reverse).reverse = _
  rw [if_neg h]
  split
  · split
    · rw [List.reverse_reverse]
    · rw [List.reverse_cons, List.reverse_reverse]
  · rw [List.reverse_cons, List.reverse_cons, List.reverse_reverse]
def spPut (K : PySem.W.Frag) : Sp := fun vs H Q _ => ∃ (a : Addr) (l : Row) (x : Str) (n : Int), vs = [.ref a, .str x, .int n] ∧ TupRow K H a l ∧ l.length ≤ 1000000 ∧ Pl l ∧ ∀ p H', Same H H' → TupRow K H' p (putL l (x, n)) → Q (.ref p) H'
theorem scPut : FnScope ["_law_row_here", "_law_sign", "_law_much", "_law_both"] ["_law_row_here", "_law_sign", "_law_much"] (defScope sPut) := ⟨rfl, rfl, rfl, by decide +kernel, rfl, by decide +kernel, by decide +kernel⟩
theorem ok_put {f : Addr} {fd : FuncData} (F : Fun K "_law_put_row" "_law_put_row" sPut f fd) (T : Txt K mg) : FnOk P w K mg base CX0 1 f fd ["_law_row_here", "_law_sign", "_law_much"] (spPut K) := by
  refine F.ok scPut (fun vs H Q E h => ?_) (fun cdv A outer s H vs Q E hr h => ?_)
  · obtain ⟨a, l, x, n, rfl, _⟩ := h
    rfl
  · obtain ⟨a, l, x, n, rfl, ⟨ys, ha, hp⟩, hl, hpl, q⟩ := h
    refine ⟨_, pss_cons (ps_if (pt_cmpR op_eq (pv 2) pe_int (nomark _)) (pss_one (ps_ret (pv 0))) pss_nil)
      (pss_cons (ps_if (PW.pt (pw_or (pt_cmpR (op_eqD hr.units) (pv 0) (pe_tup pa_nil) (nomark _)) (pw_or1 (pt_cmpR op_ne (pe_ix ix_tup (pe_ix ix_tup (pv 0) (pe_un un_neg pe_int) (fun _ _ => rfl)) pe_int (fun _ _ => rfl)) (pv 1) (nomark _)))))
          (pss_one (ps_ret (pe_op op_catRow (pv 0) (pe_tup (pa_cons (pe_tup (pa_cons (pv 1) (pa_cons (pv 2) pa_nil))) pa_nil))))) pss_nil)
      (pss_cons (ps_set (i := 3) scPut.nd rfl (Or.inl rfl) (pe_op op_add (pe_ix ix_tup (pe_ix ix_tup (pv 0) (pe_un un_neg pe_int) (fun _ _ => rfl)) pe_int (fun _ _ => rfl)) (pv 2)))
      (pss_one (ps_ret (pe_ifExp (pt_cmpR op_ne (pv 3) pe_int (nomark _)) (pe_op op_catRow (pe_slice sl_tupA (pv 0) po_none (po_some (pe_un un_neg pe_int))) (pe_tup (pa_cons (pe_tup (pa_cons (pv 1) (pa_cons (pv 3) pa_nil))) pa_nil)))
          (pe_slice sl_tupA (pv 0) po_none (po_some (pe_un un_neg pe_int)))))))), ?_⟩
    have hrow : TupRow K H a l := ⟨ys, ha, hp⟩
    refine ⟨_, rfl, rfl, _, rfl, ?_⟩
    rw [dec_int]
    by_cases hn : n = 0
    · have e : (n == 0) = true := beq_iff_eq.mpr hn
      rw [e]
      refine iteT ⟨_, rfl, q a H (Same.refl H) ?_⟩
      unfold putL
      rw [hn, Wm.push_zero, List.reverse_reverse]
      exact hrow
    · have e : (n == 0) = false := beq_eq_false_iff_ne.mpr hn
      rw [e]
      refine iteF ?_
      refine ⟨_, rfl, by decide, fun pe npe => ?_⟩
      have s1 := same_upd (o := .tup []) npe
      refine ⟨.tuple (rowsD l), .tuple [], .tup (K4.SqT.of_row s1 ha) (rows_all (PairsAt.same s1 hp)), .tup (SqT.of upd_same) .nil, shaped_row hpl, by decide +kernel, _, rfl, ?_⟩
      rw [eqv_nil]
      have hrow1 := hrow.same s1
      have q1 := fun p H' s' h' => q p H' (s1.trans s') h'
      generalize upd H pe (.tup []) = H1 at hrow1 q1 ⊢
      rcases List.eq_nil_or_concat l with rfl | ⟨l', c, rfl⟩
      · rw [decide_eq_true rfl]
        rw [putL_nil hn] at q1
        refine iteT ⟨_, rfl, _, rfl, _, rfl, by show 2 ≤ sizeLine; decide, fun pt npt => ⟨by show 1 ≤ sizeLine; decide, fun pq npq => ?_⟩⟩
        exact cat_one hrow1 (Nat.zero_le _) q1 npt npq
      · rw [List.concat_eq_append] at *
        rw [putL_last hn] at q1
        rw [decide_eq_false (by simp)]
        obtain ⟨ys1, ha1, hp1⟩ := hrow1
        obtain ⟨ys', y, rfl, hp', t, rfl, et⟩ := each_split hp1
        have hll : l'.length + 1 ≤ 1000000 := by
          rw [List.length_append, List.length_singleton] at hl
          exact hl
        refine iteF ⟨_, rfl, _, rfl, a, _, _, .ref t, rfl, rfl, ha1, atI_last _ _, t, _, _, .str c.1, rfl, rfl, SqT.of et, rfl, _, rfl, rfl, _, rfl, ?_⟩
        have hs : decide (V.str c.1 = V.str x) = decide (c.1 = x) := decide_eq_decide.mpr ⟨fun e => by injection e, fun e => by rw [e]⟩
        rw [hs]
        by_cases hc : c.1 = x
        · rw [decide_eq_true hc]
          rw [if_pos hc] at q1
          refine iteF ?_
          refine ⟨_, rfl, _, rfl, a, _, _, .ref t, rfl, rfl, ha1, atI_last _ _, t, _, _, .int c.2, rfl, rfl, SqT.of et, rfl, _, rfl, _, _, rfl, rfl, ?_⟩
          refine ⟨_, rfl, rfl, _, rfl, ?_⟩
          rw [dec_int]
          have hcut : ¬ (HT.sIx (ys' ++ [V.ref t]).length 0 none = 0 ∧ HT.sIx (ys' ++ [V.ref t]).length (ys' ++ [V.ref t]).length (some (-1)) = (ys' ++ [V.ref t]).length) := by
            rw [six_last, List.length_append, List.length_singleton]
            omega
          by_cases h0 : c.2 + n = 0
          · have eb : (!(c.2 + n == 0)) = false := by rw [h0]; rfl
            rw [eb]
            rw [if_pos h0] at q1
            refine iteF ⟨_, rfl, _, rfl, _, rfl, a, _, rfl, ha1, fun z => absurd z hcut, fun _ p np => ?_⟩
            rw [cut_last]
            exact q1 p _ (same_upd np) (.new upd_same (PairsAt.same (same_upd np) hp'))
          · have eb : (!(c.2 + n == 0)) = true := by rw [beq_eq_false_iff_ne.mpr h0]; rfl
            rw [eb]
            rw [if_neg h0] at q1
            refine iteT ⟨_, rfl, _, rfl, _, rfl, a, _, rfl, ha1, fun z => absurd z hcut, fun _ p np => ?_⟩
            rw [cut_last]
            refine ⟨_, rfl, _, rfl, by show 2 ≤ sizeLine; decide, fun pt npt => ⟨by show 1 ≤ sizeLine; decide, fun pq npq => ?_⟩⟩
            rw [hc] at q1
            exact cat_one (.new upd_same (PairsAt.same (same_upd np) hp')) (by omega) (fun p' H' s' h' => q1 p' H' ((same_upd np).trans s') h') npt npq
        · rw [decide_eq_false hc]
          rw [if_neg hc] at q1
          refine iteT ⟨_, rfl, _, rfl, _, rfl, by show 2 ≤ sizeLine; decide, fun pt npt => ⟨by show 1 ≤ sizeLine; decide, fun pq npq => ?_⟩⟩
          exact cat_one ⟨_, ha1, hp1⟩ (by rw [List.length_append, List.length_singleton]; exact hll) q1 npt npq
end
end K4

set_option Elab.async false
set_option linter.all false
set_option maxRecDepth 100000
set_option maxHeartbeats 3200000
namespace K4
open PySem L2 Tx Tg Tm
theorem push_mem {p q : Str × Int} {l : Row} (h : q ∈ Wm.push p l) : q ∈ l ∨ q = p ∨ ∃ u ∈ l, q = (u.1, u.2 + p.2) := by
  cases l with
  | nil =>
    have h' : q ∈ (if p.2 = 0 then ([] : Row) else [p]) := h
    split at h'
    · cases h'
    · exact .inr (.inl (List.mem_singleton.mp h'))
  | cons u t =>
    have h' : q ∈ (if p.2 = 0 then u :: t else if u.1 = p.1 then (if u.2 + p.2 = 0 then t else (u.1, u.2 + p.2) :: t) else p :: u :: t) := h
    split at h'
    · exact .inl h'
    · split at h'
      · split at h'
        · exact .inl (List.mem_cons_of_mem _ h')
        · rcases List.mem_cons.mp h' with h' | h'
          · exact .inr (.inr ⟨u, List.mem_cons_self, h'⟩)
          · exact .inl (List.mem_cons_of_mem _ h')
      · rcases List.mem_cons.mp h' with h' | h'
        · exact .inr (.inl h')
        · exact .inl h'
/-- runs of these letters, exponents below a bound -/
def Ru (sg : Str) (B : Nat) (l : Row) : Prop := ∀ p ∈ l, (∃ c ∈ cds sg, p.1 = one c) ∧ p.2.natAbs ≤ B
theorem Ru.pl {sg : Str} {B : Nat} {l : Row} (hs : ∀ c ∈ cds sg, c < 128) (h : Ru sg B l) : Pl l := fun p hp c hc => by
  obtain ⟨⟨d, hd, e⟩, _⟩ := h p hp
  rw [e] at hc
  rw [List.mem_singleton.mp (show c ∈ [d] from hc)]
  exact hs d hd
theorem Ru.rev {sg : Str} {B : Nat} {l : Row} (h : Ru sg B l) : Ru sg B l.reverse := fun p hp => h p (List.mem_reverse.mp hp)
theorem Ru.push {sg : Str} {B C : Nat} {l : Row} {c : Nat} {n : Int} (h : Ru sg B l) (hc : c ∈ cds sg) (hn : n.natAbs ≤ C) : Ru sg (B + C) (Wm.push (one c, n) l) := fun q hq => by
  rcases push_mem hq with hq | rfl | ⟨u, hu, rfl⟩
  · exact ⟨(h q hq).1, by have := (h q hq).2; omega⟩
  · exact ⟨⟨c, hc, rfl⟩, show n.natAbs ≤ B + C by omega⟩
  · refine ⟨(h u hu).1, ?_⟩
    have := (h u hu).2
    show (u.2 + n).natAbs ≤ B + C
    omega
theorem push_len (p : Str × Int) (r : Row) : (Wm.push p r).length ≤ r.length + 1 := joint_len [p] r
theorem signs_plain {sg : Str} (h : Signs sg) : ∀ c ∈ cds sg, c < 128 := by
  rcases h with rfl | rfl | rfl | rfl <;> decide +kernel
theorem signs_len {sg : Str} (h : Signs sg) : 0 < sg.length ∧ sg.length < 100 := by
  rcases h with rfl | rfl | rfl | rfl <;> decide +kernel
section
variable {P : Program} {w : World} {K : PySem.W.Frag} {mg : Str → Option Value} {base : Heap}
def spMost : Sp := fun vs H Q _ => ∃ (n m : Int), vs = [.int n, .int m] ∧ n ≤ m ∧ Q .non H
theorem scMost : FnScope ["many", "limit"] ["many", "limit"] (defScope sMost) := ⟨rfl, rfl, rfl, by decide +kernel, rfl, by decide +kernel, by decide +kernel⟩
theorem ok_most {f : Addr} {fd : FuncData} (F : Fun K "check_most" "check_most" sMost f fd) (T : Txt K mg) : FnOk P w K mg base CX0 1 f fd ["many", "limit"] spMost := by
  refine F.ok scMost (fun vs H Q E h => ?_) (fun cdv A outer s H vs Q E hr h => ?_)
  · obtain ⟨n, m, rfl, _⟩ := h
    rfl
  · obtain ⟨n, m, rfl, hnm, q⟩ := h
    refine ⟨_, pss_one (ps_if (pt_cmpR op_gt (pv 0) (pv 1) (nomark _)) (pss_one ps_never) pss_nil), ?_⟩
    refine ⟨_, rfl, _, rfl, _, _, rfl, rfl, _, rfl, ?_⟩
    rw [decide_eq_false (by omega)]
    exact iteF q
theorem ten30 : (1 : Int) + 10 ^ 30 ≤ 10 ^ 31 := by decide +kernel
def spPower : Sp := fun vs H Q _ => ∃ (c : Addr) (m : Int), vs = [.ref c, .int m] ∧ Cup H c ∧ 0 < m ∧ m ≤ 100 ∧ ∀ (n : Int) H', n ≠ 0 → n.natAbs ≤ 10 ^ 31 → Cup H' c → But c H H' → Q (.int n) H'
theorem scPower : FnScope ["_law_cup_here", "_law_most", "_law_lot", "_law_found"] ["_law_cup_here", "_law_most"] (defScope sPower) := ⟨rfl, rfl, rfl, by decide +kernel, rfl, by decide +kernel, by decide +kernel⟩
theorem sm {m : Int} (h0 : 0 < m) (h : m ≤ 100) : m.natAbs < 2 ^ 9000 := Nat.lt_of_lt_of_le (show m.natAbs < 2 ^ 7 by omega) (Nat.pow_le_pow_right (by decide) (by decide))
theorem sm30 : ((10 : Int) ^ 30).natAbs < 2 ^ 9000 := Nat.lt_of_lt_of_le (show ((10 : Int) ^ 30).natAbs < 2 ^ 100 by decide +kernel) (Nat.pow_le_pow_right (by decide) (by decide))
theorem ok_power {f fB : Addr} {fd fdB : FuncData} (F : Fun K "_law_power" "_law_power" sPower f fd) (T : Txt K mg) (DB : Df K mg "_law_bit" sBit ["_law_cup_here", "_law_much"] fB fdB) : FnOk P w K mg base CX0 2 f fd ["_law_cup_here", "_law_most"] spPower := by
  have G := ok_bit (P := P) (w := w) (base := base) DB.F T
  refine F.ok scPower (fun vs H Q E h => ?_) (fun cdv A outer s H vs Q E hr h => ?_)
  · obtain ⟨c, m, rfl, _⟩ := h
    rfl
  · obtain ⟨c, m, rfl, hc, m0, m1, q⟩ := h
    refine ⟨_, pss_cons (ps_set (i := 2) scPower.nd rfl (Or.inl rfl) (pe_call G hr (by rfl) DB.m DB.F.kp DB.b .nil pass0 (pa_cons (pv 0) (pa_cons pe_int pa_nil))))
      (pss_cons (ps_set (i := 3) scPower.nd rfl (Or.inl rfl) (pe_ifExp (pt_cmpR op_lt (pv 2) pe_int (nomark _)) (pe_op op_add pe_int (pe_call G hr (by rfl) DB.m DB.F.kp DB.b .nil pass0 (pa_cons (pv 0) (pa_cons (pv 1) pa_nil))))
          (pe_op op_add pe_int (pe_call G hr (by rfl) DB.m DB.F.kp DB.b .nil pass0 (pa_cons (pv 0) (pa_cons (pe_op op_pow pe_int pe_int) pa_nil))))))
      (pss_one (ps_ret (pe_ifExp (pt_cmpR op_eq (pe_call G hr (by rfl) DB.m DB.F.kp DB.b .nil pass0 (pa_cons (pv 0) (pa_cons pe_int pa_nil))) pe_int (nomark _)) (pv 3) (pe_op op_sub pe_int (pv 3)))))), ?_⟩
    have t31 : (10 : Int) ^ 31 = ((10 ^ 31 : Nat) : Int) := by norm_cast
    have last : ∀ (σ : L2.St) (H1 : Hp) (n : Int) (lot : Int), 0 < n → n ≤ 10 ^ 31 → Cup H1 c → But c H H1 → σ = [some (.ref c), some (.int m), some (.int lot), some (.int n)] →
        tIf (tTest (tOp rEq (tCall spBit [] E0 (tCons (tVar 0) (tCons (tC (.int 2)) tNil))) (tC (.int 0)))) (tVar 3) (tOp (rI0 fun i j => V.int (i - j)) (tC (.int 0)) (tVar 3)) σ H1 Q := by
      rintro σ H1 n lot n0 n1 hc1 b1 rfl
      rw [t31] at n1
      refine ⟨_, rfl, c, 2, rfl, hc1, by decide, sm (by decide) (by decide), fun r H2 _ _ hc2 b2 => ⟨rfl, _, rfl, ?_⟩⟩
      rw [dec_int]
      refine ite2 (fun _ => ⟨_, rfl, q n H2 (by omega) ?_ hc2 (b1.trans b2)⟩) (fun _ => ⟨_, rfl, _, _, rfl, rfl, q (0 - n) H2 (by omega) ?_ hc2 (b1.trans b2)⟩)
      · generalize (10 ^ 31 : Nat) = M at n1 ⊢
        omega
      · generalize (10 ^ 31 : Nat) = M at n1 ⊢
        omega
    refine ⟨_, rfl, c, 8, rfl, hc, by decide, sm (by decide) (by decide), fun lot H1 l0 l8 hc1 b1 => ?_⟩
    refine ⟨_, rfl, _, _, rfl, rfl, _, rfl, ?_⟩
    refine ite2 (fun _ => ?_) (fun _ => ?_)
    · refine ⟨_, rfl, _, rfl, c, m, rfl, hc1, m0, sm m0 m1, fun r H2 r0 rm hc2 b2 => ⟨_, _, rfl, rfl, ?_⟩⟩
      exact last _ H2 (1 + r) lot (by omega) (Int.le_trans (show 1 + r ≤ 1 + 10 ^ 30 from Int.add_le_add_left (Int.le_trans (show r ≤ 100 by omega) (by decide +kernel)) 1) ten30) hc2 (b1.trans b2) rfl
    · refine ⟨_, rfl, _, _, rfl, rfl, ⟨by decide, by decide, by decide⟩, c, _, rfl, hc1, (show (0 : Int) < 10 ^ 30 by decide +kernel), sm30, fun r H2 r0 rm hc2 b2 => ⟨_, _, rfl, rfl, ?_⟩⟩
      have rm' : r < 10 ^ 30 := rm
      exact last _ H2 (1 + r) lot (by omega) (Int.le_trans (Int.add_le_add_left (Int.le_of_lt rm') 1) ten30) hc2 (b1.trans b2) rfl
end
end K4

set_option Elab.async false
set_option linter.all false
set_option maxRecDepth 100000
set_option maxHeartbeats 3200000
namespace K4
open PySem L2 Tx Tg Tm
theorem not_cup {H : Hp} {c a : Addr} {o : HO} (h : Cup H c) (e : H a = some o) (n : ∀ xs, o ≠ .lst xs) : a ≠ c := by
  rintro rfl
  obtain ⟨x, y, z, e2⟩ := h
  rw [e] at e2
  exact n _ (Option.some.inj e2)
theorem TupRow.but {K : PySem.W.Frag} {H H' : Hp} {c a : Addr} {l : Row} (hc : Cup H c) (b : But c H H') (h : TupRow K H a l) : TupRow K H' a l := by
  obtain ⟨ys, ha, hp⟩ := h
  refine ⟨ys, ?_, hp.mono fun y p ⟨t, e1, e2⟩ => ⟨t, e1, b _ _ (not_cup hc e2 fun xs z => by cases z) e2⟩⟩
  rcases ha with h | h
  · rcases h with h | ⟨o, h⟩
    · exact .inl (.inl (b _ _ (not_cup hc h fun xs z => by cases z) h))
    · exact .inl (.inr ⟨o, b _ _ (not_cup hc h fun xs z => by cases z) h⟩)
  · exact .inr h
theorem put_red {l : Row} {p : Str × Int} (h : Wm.Red l.reverse) : Wm.Red (putL l p).reverse := by
  unfold putL
  rw [List.reverse_reverse]
  exact Wm.red_push h
theorem put_len (l : Row) (p : Str × Int) : (putL l p).length ≤ l.length + 1 := by
  unfold putL
  rw [List.length_reverse]
  have := push_len p l.reverse
  rw [List.length_reverse] at this
  exact this
theorem put_ru {sg : Str} {B C : Nat} {l : Row} {c : Nat} {n : Int} (h : Ru sg B l) (hc : c ∈ cds sg) (hn : n.natAbs ≤ C) : Ru sg (B + C) (putL l (one c, n)) := (h.rev.push hc hn).rev
abbrev nRow : List Str := ["_law_cup_here", "_law_signs_here", "_law_much", "_law_most", "_law_row_here", "_law_turn"]
section
variable {P : Program} {w : World} {K : PySem.W.Frag} {mg : Str → Option Value} {base : Heap}
def spDraw (K : PySem.W.Frag) : Sp := fun vs H Q _ => ∃ (c : Addr) (sg : Str) (m : Nat) (e : Int), vs = [.ref c, .str sg, .int m, .int e] ∧ Cup H c ∧ Signs sg ∧ m ≤ 10 ∧ 0 < e ∧ e ≤ 100 ∧
  ∀ p H' l, Cup H' c → But c H H' → TupRow K H' p l → Wm.Red l.reverse → Ru sg (m * 10 ^ 31) l → l.length ≤ m → Q (.ref p) H'
theorem scRow : FnScope nRow ["_law_cup_here", "_law_signs_here", "_law_much", "_law_most"] (defScope sRow) := ⟨rfl, rfl, rfl, by decide +kernel, rfl, by decide +kernel, by decide +kernel⟩
theorem ok_row {f fB fP fW fU : Addr} {fd fdB fdP fdW fdU : FuncData} (F : Fun K "_law_row" "_law_row" sRow f fd) (T : Txt K mg) (DB : Df K mg "_law_bit" sBit ["_law_cup_here", "_law_much"] fB fdB) (DP : Df K mg "_law_pick" sPick ["_law_cup_here", "_law_items"] fP fdP)
    (DW : Df K mg "_law_power" sPower ["_law_cup_here", "_law_most"] fW fdW) (DU : Df K mg "_law_put_row" sPut ["_law_row_here", "_law_sign", "_law_much"] fU fdU) : FnOk P w K mg base CX0 3 f fd ["_law_cup_here", "_law_signs_here", "_law_much", "_law_most"] (spDraw K) := by
  have GB := ok_bit (P := P) (w := w) (base := base) DB.F T
  have GP := ok_pick (P := P) (w := w) (base := base) DP.F T DB
  have GW := ok_power (P := P) (w := w) (base := base) DW.F T DB
  have GU := ok_put (P := P) (w := w) (base := base) DU.F T
  refine F.ok scRow (fun vs H Q E h => ?_) (fun cdv A outer s H vs Q E hr h => ?_)
  · obtain ⟨c, sg, m, e, rfl, _⟩ := h
    rfl
  · obtain ⟨c, sg, m, e, rfl, hc, hsg, hm, e0, e1, q⟩ := h
    have r1 : Room 1 _ := hr.mono (by decide)
    refine ⟨_, pss_cons (ps_set (i := 4) scRow.nd rfl (Or.inl rfl) (pe_tup pa_nil))
      (pss_cons (ps_for PassesOwn.never rfl (pi_range1 rfl T.range (pa_cons (pe_call GB r1 (by rfl) DB.m DB.F.kp DB.b .nil pass0 (pa_cons (pv 0) (pa_cons (pe_op op_add (pv 2) pe_int) pa_nil))) pa_nil)) (pg_name (i := 5) scRow.nd rfl (Or.inl rfl))
        (pss_one (ps_set (i := 4) scRow.nd rfl (Or.inl rfl) (pe_call GU r1 (by rfl) DU.m DU.F.kp DU.b .nil pass0 (pa_cons (pv 4) (pa_cons (pe_call GP hr (by rfl) DP.m DP.F.kp DP.b .nil pass0 (pa_cons (pv 0) (pa_cons (pv 1) pa_nil)))
          (pa_cons (pe_call GW hr (by rfl) DW.m DW.F.kp DW.b .nil pass0 (pa_cons (pv 0) (pa_cons (pv 3) pa_nil))) pa_nil)))))))
      (pss_one (ps_ret (pv 4)))), ?_⟩
    refine ⟨by decide, fun pe npe => ?_⟩
    have s0 := same_upd (o := .tup []) npe
    have he : TupRow K (upd H pe (.tup [])) pe [] := .new upd_same .nil
    have hc0 := hc.same s0
    have b0 := But.of (c := c) s0
    generalize upd H pe (.tup []) = H0 at he hc0 b0 ⊢
    refine ⟨_, rfl, _, rfl, _, _, rfl, rfl, c, (m : Int) + 1, rfl, hc0, by omega, sm (by omega) (by omega), fun r H1 r0 rm hc1 b1 => ?_⟩
    obtain ⟨k, rfl⟩ := Int.eq_ofNat_of_zero_le r0
    refine ⟨_, rfl, by omega, by omega, for_range (n := k) (fun i σ H2 => ∃ (p : Addr) (l : Row) (t5 : Option V), σ = [some (.ref c), some (.str sg), some (.int m), some (.int e), some (.ref p), t5] ∧ Cup H2 c ∧ But c H H2 ∧ TupRow K H2 p l ∧ Wm.Red l.reverse ∧ Ru sg (i * 10 ^ 31) l ∧ l.length ≤ i)
      ⟨pe, [], none, rfl, hc1, b0.trans b1, he.but hc0 b1, trivial, (fun p hp => by cases hp), Nat.le_refl 0⟩ ?_ ?_⟩
    · rintro i σ H2 hi ⟨p, l, t5, rfl, hc2, b2, hp, hred, hru, hll⟩
      have sl := signs_len hsg
      refine ⟨_, rfl, _, rfl, _, rfl, c, hc2, .inr ⟨sg, rfl, sl.1, sl.2, fun d H3 hd hc3 b3 => ?_⟩⟩
      refine ⟨_, rfl, _, rfl, c, e, rfl, hc3, e0, e1, fun n H4 n0 nb hc4 b4 => ?_⟩
      have hp4 := (hp.but hc2 b3).but hc3 b4
      refine ⟨p, l, one d, n, rfl, hp4, by omega, hru.pl (signs_plain hsg), fun p5 H5 s5 h5 => ?_⟩
      refine ⟨p5, _, _, rfl, hc4.same s5, ((b2.trans b3).trans b4).trans (But.of s5), h5, put_red hred, ?_, ?_⟩
      · have := put_ru hru hd nb
        rw [Nat.add_mul, Nat.one_mul]
        exact this
      · have := put_len l (one d, n)
        omega
    · rintro σ H2 ⟨p, l, t5, rfl, hc2, b2, hp, hred, hru, hll⟩
      refine ⟨_, rfl, q p H2 l hc2 b2 hp hred (fun u hu => ⟨(hru u hu).1, Nat.le_trans (hru u hu).2 (Nat.mul_le_mul_right _ (by omega))⟩) (by omega)⟩
end
end K4

set_option Elab.async false
set_option linter.all false
set_option maxRecDepth 100000
set_option maxHeartbeats 3200000
namespace K4
open PySem L2 Tx Tg Tm
theorem k_tuple_tuple : kitB "tuple" "tuple" = some true := by decide +kernel
theorem isInt_of {n : Int} {B : Nat} (h : n.natAbs ≤ B) (hB : B < 10 ^ 200) : isInt (.int n) = true := by
  show decide (n.natAbs < 10 ^ 200) = true
  exact decide_eq_true (Nat.lt_of_le_of_lt h hB)
section
variable {P : Program} {w : World} {K : PySem.W.Frag} {mg : Str → Option Value} {base : Heap}
def spIsRun : Sp := fun vs H Q _ => ∃ (sg : Str) (t : Addr) (c : Nat) (n : Int), vs = [.str sg, .ref t] ∧ H t = some (.tup [.str (one c), .int n]) ∧ c ∈ cds sg ∧ isInt (.int n) = true ∧ Q (.bl true) H
theorem scIsRun : FnScope ["letters", "value", "letter", "exponent"] ["letters", "value"] (defScope sIsRun) := ⟨rfl, rfl, rfl, by decide +kernel, rfl, by decide +kernel, by decide +kernel⟩
theorem ok_isrun {f fI : Addr} {fd fdI : FuncData} (F : Fun K "is_run" "is_run" sIsRun f fd) (T : Txt K mg) (DI : Df K mg "is_integer" sInt ["value"] fI fdI) : FnOk P w K mg base CX0 2 f fd ["letters", "value"] spIsRun := by
  have G := ok_int (P := P) (w := w) (base := base) DI.F T
  refine F.ok scIsRun (fun vs H Q E h => ?_) (fun cdv A outer s H vs Q E hr h => ?_)
  · obtain ⟨sg, t, c, n, rfl, _⟩ := h
    rfl
  · obtain ⟨sg, t, c, n, rfl, et, hc, hn, q⟩ := h
    refine ⟨_, pss_cons (ps_if (PW.pt (pw_or (pt_not (pt_val (pe_callB call_isi (by rfl) T.isi (by decide +kernel) (pa_cons (pv 1) (pa_cons (pe_bltn (v := .ty "tuple") (by rfl) T.tuple (by decide +kernel) rfl) pa_nil)))))
        (pw_or1 (pt_cmpR op_ne (pe_callB call_len_seq (by rfl) T.len PySem.boot_len (pa_cons (pv 1) pa_nil)) pe_int (nomark _))))) (pss_one (ps_ret pe_bl)) pss_nil)
      (pss_cons (ps_asg (pv 1) (pg_tup rfl (pgs_cons (pg_name (i := 2) scIsRun.nd rfl (Or.inl rfl)) (pgs_cons (pg_name (i := 3) scIsRun.nd rfl (Or.inl rfl)) pgs_nil))))
      (pss_one (ps_ret (pe_and (pe_callB call_isi (by rfl) T.isi (by decide +kernel) (pa_cons (pv 2) (pa_cons (pe_bltn (v := .ty "str") (by rfl) T.str (by decide +kernel) rfl) pa_nil)))
        (pe_and (pe_cmpR op_eq (pe_callB call_len_str (by rfl) T.len PySem.boot_len (pa_cons (pv 2) pa_nil)) pe_int (nomark _))
        (pe_and (pe_cmpR op_in_sign (pv 2) (pv 0) (by rfl)) (pe_one (pe_call G hr (by rfl) DI.m DI.F.kp DI.b .nil pass0 (pa_cons (pv 3) pa_nil))))))))), ?_⟩
    refine ⟨_, rfl, _, _, _, _, _, rfl, .ty "tuple", TyX.base (.tup et), kit_ty k_tuple_tuple, true, rfl, _, rfl, ?_⟩
    refine ⟨t, _, rfl, .inr (SqT.of et), rfl, _, rfl, ?_⟩
    refine ⟨_, rfl, t, _, rfl, SqT.of et, rfl, _, _, rfl, _, _, rfl, rfl, ?_⟩
    refine ⟨_, rfl, _, _, _, _, _, rfl, .ty "str", TyX.base (.str (one c)), kit_ty k_str_str, true, rfl, iteT ?_⟩
    refine ⟨_, rfl, one c, rfl, (show 1 ≤ sizeLine by decide), rfl, _, rfl, iteT ?_⟩
    refine ⟨_, rfl, _, rfl, c, sg, rfl, rfl, _, rfl, ?_⟩
    rw [decide_eq_true hc]
    refine iteT ⟨_, rfl, .int n, .int n, rfl, .int n, ?_⟩
    rw [hn]
    exact q
def spIsRow (K : PySem.W.Frag) : Sp := fun vs H Q _ => ∃ (sg : Str) (a : Addr) (l : Row) (B : Nat), vs = [.str sg, .ref a] ∧ TupRow K H a l ∧ Ru sg B l ∧ B < 10 ^ 200 ∧ l.length ≤ 100000 ∧ ∀ H', Same H H' → Q (.bl true) H'
theorem scIsRow : FnScope ["letters", "value", "pair"] ["letters", "value"] (defScope sIsRow) := ⟨rfl, rfl, rfl, by decide +kernel, rfl, by decide +kernel, by decide +kernel⟩
theorem ok_isrow {f fR fI : Addr} {fd fdR fdI : FuncData} (F : Fun K "is_row_of_runs" "is_row_of_runs" sIsRow f fd) (T : Txt K mg) (DI : Df K mg "is_integer" sInt ["value"] fI fdI) (DR : Df K mg "is_run" sIsRun ["letters", "value"] fR fdR) :
    FnOk P w K mg base CX0 3 f fd ["letters", "value"] (spIsRow K) := by
  have G := ok_isrun (P := P) (w := w) (base := base) DR.F T DI
  refine F.ok scIsRow (fun vs H Q E h => ?_) (fun cdv A outer s H vs Q E hr h => ?_)
  · obtain ⟨sg, a, l, B, rfl, _⟩ := h
    rfl
  · obtain ⟨sg, a, l, B, rfl, ⟨ys, ha, hp⟩, hru, hB, hl, q⟩ := h
    refine ⟨_, pss_one (ps_ret (pe_and (pe_callB call_isi (by rfl) T.isi (by decide +kernel) (pa_cons (pv 1) (pa_cons (pe_bltn (v := .ty "tuple") (by rfl) T.tuple (by decide +kernel) rfl) pa_nil)))
      (pe_one (pe_callB (cr_all rfl) (by rfl) T.all (by decide +kernel) (pa_cons (pe_lc (own := [("pair", 2)]) (g := gName 2) (tt := tYes) rfl scIsRow.nd (pi_tup (pv 1))
        (blkOk_by (own := [("pair", 2)]) (N := ["letters", "value", "pair"]) (sc := defScope sIsRow) (by decide +kernel)) (fun _ _ _ _ _ => pg_name (i := 2) scIsRow.nd rfl (Or.inl rfl)) (fun _ _ _ _ _ => pts_nil)
        (fun _ _ _ _ _ => pe_call G hr (by rfl) DR.m DR.F.kp DR.b .nil pass0 (pa_cons (pv 0) (pa_cons (pv 2) pa_nil)))) pa_nil))))), ?_⟩
    have ty : TyX K H (.ref a) (.type "tuple") := by
      rcases ha with h | ⟨o, its, n, hk, hc, _⟩
      · rcases h with h | ⟨o, h⟩
        · exact .base (.tup h)
        · exact .fTuple h
      · exact .kTuple hk hc
    refine ⟨_, rfl, _, _, _, _, _, rfl, .ty "tuple", ty, kit_ty k_tuple_tuple, true, rfl, iteT ?_⟩
    refine ⟨_, rfl, a, rfl, ⟨_, ha⟩, fun D hD => ?_⟩
    have hlen : ys.length = l.length := hp.length
    refine lc_tup (xs := ys) (fun i H1 => Same H H1 ∧ H1 D = some (.lst ((List.replicate i true).map V.bl))) ⟨same_upd hD, upd_same⟩ (fun i H1 _ z => K4.SqT.of_row z.1 ha) ?_ ?_
    · rintro i x H1 hx ⟨s1, e1⟩
      have hi := (List.getElem?_eq_some_iff.mp hx).1
      have hi' : i < l.length := by omega
      obtain ⟨t, rfl, et⟩ : PairAt H x l[i] := hp.zip (x, l[i]) (List.mem_of_getElem? (i := i) (by rw [List.getElem?_zip_eq_some]; exact ⟨hx, List.getElem?_eq_getElem hi'⟩))
      obtain ⟨⟨c, hc, ec⟩, hb⟩ := hru l[i] (List.getElem_mem hi')
      rw [ec] at et
      refine ⟨rfl, iteT (B := Same H H1 ∧ H1 D = some (.lst ((List.replicate (i + 1) true).map V.bl))) ?_⟩
      refine ⟨_, rfl, _, rfl, sg, t, c, _, rfl, s1 _ _ et, hc, isInt_of hb hB, _, e1, ?_, same_put s1 hD, ?_⟩
      · rw [List.length_map, List.length_replicate]
        exact Nat.lt_of_lt_of_le (show i < 100000 by omega) (by decide)
      · rw [upd_same, List.replicate_succ', List.map_append]
        rfl
    · rintro H1 ⟨s1, e1⟩
      have hall : (List.replicate ys.length true).all id = true := List.all_eq_true.mpr fun b hb => by rw [(List.mem_replicate.mp hb).2]; rfl
      refine ⟨D, _, rfl, SqL.of e1, ?_⟩
      rw [hall]
      exact q _ s1
end
end K4

set_option Elab.async false
set_option linter.all false
set_option maxRecDepth 100000
set_option maxHeartbeats 3200000
namespace K4
open PySem L2 Tx Tg Tm
def clsBody (s : Stmt) : List Stmt := match s with
  | .ClassDef (body := b) .. => b
  | _ => []
abbrev sMadeInit : Stmt := (clsBody (top 22)).getD 0 (.Pass ⟨0, 0, 0, 0⟩)
abbrev wdef (i : Nat) : Stmt := (clsBody (top 33)).getD i (.Pass ⟨0, 0, 0, 0⟩)
abbrev sWordInit : Stmt := wdef 0
/-- what is asked of the two classes -/
structure WF (K : PySem.W.Frag) (mg : Str → Option Value) (CM CW : Addr) : Prop where
  gM : mg "Made" = some (.ref CM)
  gW : mg "Word" = some (.ref CW)
  clM : Cls K CM
  nC : NoAttr K CM "content"
  clW : Cls K CW
  nL : NoAttr K CW "_letters"
  nR : NoAttr K CW "_runs"
  iMM : PySem.W.kitOne K (.ref CM) (.ref CM) = some true
  iTM : PySem.W.kitOne K (.type "tuple") (.ref CM) = some false
  tyM : ∀ (H : Hp) (a dx : Addr) (fs : List (Str × V)), H a = some (.ins CM dx fs) → TyX K H (.ref a) (.ref CM)
  tyW : ∀ (H : Hp) (a dx : Addr) (fs : List (Str × V)), H a = some (.ins CW dx fs) → TyX K H (.ref a) (.ref CW)
  iWW : PySem.W.kitOne K (.ref CW) (.ref CW) = some true
section
variable {P : Program} {w : World} {K : PySem.W.Frag} {mg : Str → Option Value} {base : Heap}
def spMadeInit (CM : Addr) : Sp := fun vs H Q _ => ∃ (x dx : Addr) (v : V), vs = [.ref x, v] ∧ H x = some (.ins CM dx []) ∧ Q .non (upd H x (.ins CM dx [("content", v)]))
theorem scMadeInit : FnScope ["self", "content"] ["self", "content"] (defScope sMadeInit) := ⟨rfl, rfl, rfl, by decide +kernel, rfl, by decide +kernel, by decide +kernel⟩
theorem ok_madeinit {CM CW f : Addr} {fd : FuncData} (F : Fun K "__init__" "Made.__init__" sMadeInit f fd) (W : WF K mg CM CW) : FnOk P w K mg base CX0 1 f fd ["self", "content"] (spMadeInit CM) := by
  refine F.ok scMadeInit (fun vs H Q E h => ?_) (fun cdv A outer s H vs Q E hr h => ?_)
  · obtain ⟨x, dx, v, rfl, _⟩ := h
    rfl
  · obtain ⟨x, dx, v, rfl, hx, q⟩ := h
    refine ⟨_, pss_one (ps_fld (pv 0) (pv 1) rfl), ?_⟩
    exact ⟨_, rfl, _, rfl, x, CM, dx, [], rfl, hx, W.clM, W.nC, by decide, q⟩
end
end K4

set_option Elab.async false
set_option linter.all false
set_option maxRecDepth 100000
set_option maxHeartbeats 3200000
namespace K4
open PySem L2 Tx Tg Tm
theorem signs_letters {sg : Str} (h : Signs sg) : letters (.str sg) = true := by
  have go : ∀ z : Str, (decide (z.length ≤ 3) && only z alpha && decide (z ≠ Str.empty)) = true → (cds z).Pairwise (· < ·) → letters (.str z) = true := fun z h1 h2 => by
    show (decide (z.length ≤ 3) && only z alpha && decide (z ≠ Str.empty) && rise z) = true
    rw [h1, Bool.true_and]
    exact decide_eq_true (up_eq h2 (ups_up _) fun c => (ups_mem _ c).symm)
  rcases h with rfl | rfl | rfl | rfl <;> exact go _ (by decide +kernel) (by decide +kernel)
theorem signs_fine {sg : Str} (h : Signs sg) : Fine sg := by
  rcases h with rfl | rfl | rfl | rfl <;> exact ⟨by decide +kernel, by decide +kernel, by decide +kernel⟩
/-- rows stay where only an instance is written -/
theorem TupRow.ins {K : PySem.W.Frag} {H H' : Hp} {c a : Addr} {l : Row} {C dx : Addr} {fs : List (Str × V)} (hc : H c = some (.ins C dx fs)) (b : But c H H') (h : TupRow K H a l) : TupRow K H' a l := by
  have nc : ∀ {q : Addr} {o : HO}, H q = some o → (∀ D y gs, o ≠ .ins D y gs) → q ≠ c := fun e n z => by
    rw [z, hc] at e
    exact n _ _ _ (Option.some.inj e).symm
  obtain ⟨ys, ha, hp⟩ := h
  refine ⟨ys, ?_, hp.mono fun y p ⟨t, e1, e2⟩ => ⟨t, e1, b _ _ (nc e2 fun _ _ _ z => by cases z) e2⟩⟩
  rcases ha with h | h
  · rcases h with h | ⟨o, h⟩
    · exact .inl (.inl (b _ _ (nc h fun _ _ _ z => by cases z) h))
    · exact .inl (.inr ⟨o, b _ _ (nc h fun _ _ _ z => by cases z) h⟩)
  · exact .inr h
section
variable {P : Program} {w : World} {K : PySem.W.Frag} {mg : Str → Option Value} {base : Heap}
def spPassL : Sp := fun vs H Q _ => ∃ (sg : Str), vs = [.str sg] ∧ Signs sg ∧ ∀ H', Same H H' → Q .non H'
theorem scCheck : FnScope ["value"] ["value"] (defScope sCheck) := ⟨rfl, rfl, rfl, by decide +kernel, rfl, by decide +kernel, by decide +kernel⟩
theorem ok_passL {f fH fL : Addr} {fd fdH fdL : FuncData} (F : Fun K "check_letters" "check_letters" sCheck f fd) (T : Txt K mg) (DH : Df K mg "has_only" sHas ["value", "signs", "most"] fH fdH)
    (DL : Df K mg "is_letters" sLetters ["value"] fL fdL) : FnOk P w K mg base CX0 3 f fd ["value"] spPassL := by
  have G := ok_letters (P := P) (w := w) (base := base) DL.F T DH
  refine F.ok scCheck (fun vs H Q E h => ?_) (fun cdv A outer s H vs Q E hr h => ?_)
  · obtain ⟨v, rfl, _⟩ := h
    rfl
  · obtain ⟨sg, rfl, hs, q⟩ := h
    refine ⟨_, pss_one (ps_if (pt_not (pt_val (pe_call G hr (by rfl) DL.m DL.F.kp DL.b .nil pass0 (pa_cons (pv 0) pa_nil)))) (pss_one ps_never) pss_nil), ?_⟩
    refine ⟨_, rfl, .str sg, .str sg, rfl, .str sg, signs_fine hs, fun H' s1 => ⟨_, rfl, ?_⟩⟩
    rw [signs_letters hs]
    exact iteF (q _ s1)
/-- what a word is made of: a row of runs that is judged, or one that is handed over -/
def Src (K : PySem.W.Frag) (CM : Addr) (H : Hp) (sg : Str) (a : Addr) (l : Row) : Prop :=
  (∃ b dm, H a = some (.ins CM dm [("content", .ref b)]) ∧ TupRow K H b l) ∨ (TupRow K H a l ∧ ∃ B, Ru sg B l ∧ B < 10 ^ 200)
theorem wi_tail {CM CW : Addr} {D : Ends} {H H2 : Hp} {x dx p : Addr} {v2 : Option V} {sg : Str} {r : Row} (W : WF K mg CM CW) (s2 : Same H H2) (hx : H x = some (.ins CW dx [])) (hr : TupRow K H2 p r) (hl : r.length ≤ 200)
    (q : ∀ H', But x H H' → H' x = some (.ins CW dx [("_letters", .str sg), ("_runs", .ref p)]) → TupRow K H' p r → D.nx [some (.ref x), some (.str sg), v2, some (.ref p)] H') :
    tSeq (tDrop (tCall spMost [] E0 (tCons (tCB (fun xs H Q => ∃ p ys, xs = [V.ref p] ∧ (SqL K H p ys ∨ SqT K H p ys) ∧ Q (V.int (ys.length : Nat)) H) (tCons (tVar 3) tNil)) (tCons (tC (V.int 200)) tNil))))
      (tSeq (sFld K (tVar 0) (tVar 1) "_letters") (sFld K (tVar 0) (tVar 3) "_runs")) D [some (.ref x), some (.str sg), v2, some (.ref p)] H2 := by
  obtain ⟨ys, hy, hp⟩ := id hr
  have hx2 := s2 _ _ hx
  refine ⟨_, rfl, p, ys, rfl, .inr hy, _, _, rfl, by rw [hp.length]; omega, ?_⟩
  refine ⟨_, rfl, _, rfl, x, CW, dx, [], rfl, hx2, W.clW, W.nL, by decide, ?_⟩
  refine ⟨_, rfl, _, rfl, x, CW, dx, _, rfl, upd_same, W.clW, W.nR, by show 1 < 1000; decide, ?_⟩
  refine q _ (fun b o n e => ?_) upd_same (hr.ins hx2 fun b o n e => ?_)
  · rw [upd_ne n, upd_ne n]
    exact s2 _ _ e
  · rw [upd_ne n, upd_ne n]
    exact e
def spWordInit (K : PySem.W.Frag) (CM CW : Addr) : Sp := fun vs H Q _ => ∃ (x dx : Addr) (sg : Str) (a : Addr) (l : Row), vs = [.ref x, .str sg, .ref a] ∧ H x = some (.ins CW dx []) ∧ Signs sg ∧ Src K CM H sg a l ∧ l.length ≤ 100000 ∧ (rowOf l).length ≤ 200 ∧
  ∀ H' p, But x H H' → H' x = some (.ins CW dx [("_letters", .str sg), ("_runs", .ref p)]) → TupRow K H' p (rowOf l) → Q .non H'
abbrev nWI : List Str := ["self", "letters", "runs", "left"]
theorem scWordInit : FnScope nWI ["self", "letters", "runs"] (defScope sWordInit) := ⟨rfl, rfl, rfl, by decide +kernel, rfl, by decide +kernel, by decide +kernel⟩
theorem ok_wordinit {CM CW f fH fL fC fI fR fRR fJ fM : Addr} {fd fdH fdL fdC fdI fdR fdRR fdJ fdM : FuncData} (F : Fun K "__init__" "Word.__init__" sWordInit f fd) (T : Txt K mg) (W : WF K mg CM CW) (DH : Df K mg "has_only" sHas ["value", "signs", "most"] fH fdH)
    (DL : Df K mg "is_letters" sLetters ["value"] fL fdL) (DC : Df K mg "check_letters" sCheck ["value"] fC fdC) (DI : Df K mg "is_integer" sInt ["value"] fI fdI) (DR : Df K mg "is_run" sIsRun ["letters", "value"] fR fdR) (DRR : Df K mg "is_row_of_runs" sIsRow ["letters", "value"] fRR fdRR)
    (DJ : Df K mg "joined_runs" sJoin ["pairs"] fJ fdJ) (DM : Df K mg "check_most" sMost ["many", "limit"] fM fdM) : FnOk P w K mg base CX0 4 f fd ["self", "letters", "runs"] (spWordInit K CM CW) := by
  have GC := ok_passL (P := P) (w := w) (base := base) DC.F T DH DL
  have GR := ok_isrow (P := P) (w := w) (base := base) DRR.F T DI DR
  have GJ := ok_join' (P := P) (w := w) (base := base) DJ.F T
  have GM := ok_most (P := P) (w := w) (base := base) DM.F T
  refine F.ok scWordInit (fun vs H Q E h => ?_) (fun cdv A outer s H vs Q E hr h => ?_)
  · obtain ⟨x, dx, sg, a, l, rfl, _⟩ := h
    rfl
  · obtain ⟨x, dx, sg, a, l, rfl, hx, hsg, hsrc, hl, hrl, q⟩ := h
    have r1 : Room 1 _ := hr.mono (by decide)
    obtain ⟨t4, g4⟩ := T.mRuns
    refine ⟨_, pss_cons (ps_expr (pe_call GC hr (by rfl) DC.m DC.F.kp DC.b .nil pass0 (pa_cons (pv 1) pa_nil)))
      (pss_cons (ps_if (pt_val (pe_callB call_isi (by rfl) T.isi (by decide +kernel) (pa_cons (pv 2) (pa_cons (pe_glob (v := .ref CM) (by rfl) W.gM rfl) pa_nil))))
          (pss_one (ps_set (i := 3) scWordInit.nd rfl (Or.inl rfl) (pe_call GJ r1 (by rfl) DJ.m DJ.F.kp DJ.b .nil pass0 (pa_cons (pe_fld (pv 2) rfl) pa_nil))))
          (pss_one (ps_if (pt_val (pe_call GR hr (by rfl) DRR.m DRR.F.kp DRR.b .nil pass0 (pa_cons (pv 1) (pa_cons (pv 2) pa_nil))))
            (pss_one (ps_set (i := 3) scWordInit.nd rfl (Or.inl rfl) (pe_call GJ r1 (by rfl) DJ.m DJ.F.kp DJ.b .nil pass0 (pa_cons (pv 2) pa_nil)))) (pss_one ps_never))))
      (pss_cons (ps_expr (pe_call GM r1 (by rfl) DM.m DM.F.kp DM.b .nil pass0 (pa_cons (pe_callB call_len_seq (by rfl) T.len PySem.boot_len (pa_cons (pv 3) pa_nil)) (pa_cons (pe_glob (v := .int 200) (by rfl) g4 ⟨_, rfl⟩) pa_nil))))
      (pss_cons (ps_fld (pv 0) (pv 1) rfl)
      (pss_one (ps_fld (pv 0) (pv 3) rfl))))), ?_⟩
    refine ⟨_, rfl, sg, rfl, hsg, fun H1 s1 => ?_⟩
    rcases hsrc with ⟨b, dm, ha, hb⟩ | ⟨hrow, B, hru, hB⟩
    · refine ⟨_, rfl, _, _, _, _, _, rfl, .own CM, W.tyM _ _ _ _ (s1 _ _ ha), W.iMM, true, rfl, iteT ?_⟩
      refine ⟨_, rfl, a, CM, dm, _, _, rfl, s1 _ _ ha, W.clM, W.nC, rfl, ?_⟩
      refine ⟨b, l, rfl, hb.same s1, by omega, fun p H2 s2 h2 => ?_⟩
      exact wi_tail W (s1.trans s2) hx h2 hrl fun H' b1 b2 b3 => q H' p b1 b2 b3
    · have ty : TyX K H1 (.ref a) (.type "tuple") := by
        obtain ⟨ys, hy, _⟩ := hrow.same s1
        rcases hy with h | ⟨o, its, n, hk, hc, _⟩
        · rcases h with h | ⟨o, h⟩
          · exact .base (.tup h)
          · exact .fTuple h
        · exact .kTuple hk hc
      refine ⟨_, rfl, _, _, _, _, _, rfl, .own CM, ty, W.iTM, false, rfl, iteF ?_⟩
      refine ⟨_, rfl, _, rfl, sg, a, l, B, rfl, hrow.same s1, hru, hB, hl, fun H2 s2 => ⟨_, rfl, iteT ?_⟩⟩
      refine ⟨_, rfl, a, l, rfl, hrow.same (s1.trans s2), by omega, fun p H3 s3 h3 => ?_⟩
      exact wi_tail W ((s1.trans s2).trans s3) hx h3 hrl fun H' b1 b2 b3 => q H' p b1 b2 b3
end
end K4

set_option Elab.async false
set_option linter.all false
set_option maxRecDepth 100000
set_option maxHeartbeats 3200000
namespace K4
open PySem L2 Tx Tg Tm
abbrev sMul : Stmt := wdef 10
abbrev sInv : Stmt := wdef 11
def WordAt (K : PySem.W.Frag) (CW : Addr) (H : Hp) (a : Addr) (sg : Str) (l : Row) : Prop := ∃ dx p, H a = some (.ins CW dx [("_letters", .str sg), ("_runs", .ref p)]) ∧ TupRow K H p l
theorem WordAt.same {K : PySem.W.Frag} {CW : Addr} {H H' : Hp} {a : Addr} {sg : Str} {l : Row} (s : Same H H') (h : WordAt K CW H a sg l) : WordAt K CW H' a sg l := by
  obtain ⟨dx, p, e, r⟩ := h
  exact ⟨dx, p, s _ _ e, r.same s⟩
/-- the classes' makers -/
structure Makes4 (P : Program) (w : World) (K : PySem.W.Frag) (mg : Str → Option Value) (base : Heap) (CM CW fMI fWI : Addr) (dMI dWI : FuncData) : Prop where
  W : WF K mg CM CW
  mM : Mk K CM fMI
  mW : Mk K CW fWI
  gMI : FnOk P w K mg base CX0 1 fMI dMI ["self", "content"] (spMadeInit CM)
  gWI : FnOk P w K mg base CX0 4 fWI dWI ["self", "letters", "runs"] (spWordInit K CM CW)
  bMI : Binds K dMI ["self", "content"] []
  bWI : Binds K dWI ["self", "letters", "runs"] []
/-- Word(letters, Made(row)): the two objects new -/
theorem made_word {P : Program} {w : World} {K : PySem.W.Frag} {mg : Str → Option Value} {base : Heap} {CM CW fMI fWI : Addr} {dMI dWI : FuncData} (G : Makes4 P w K mg base CM CW fMI fWI dMI dWI) {H : Hp} {sg : Str} {b : Addr} {l : Row} {Q : VK} {E : XK} (hsg : Signs sg) (hb : TupRow K H b l) (hl : l.length ≤ 100000)
    (hrl : (rowOf l).length ≤ 200) (q : ∀ x H', Same H H' → WordAt K CW H' x sg (rowOf l) → Q (.ref x) H') :
    ∀ m dm, H m = none → H dm = none → dm ≠ m → spMadeInit CM (.ref m :: ([V.ref b] ++ [])) (upd (upd H dm (.own m)) m (.ins CM dm [])) (fun v H2 => v = .non ∧ ∀ x dx, H2 x = none → H2 dx = none → dx ≠ x →
      spWordInit K CM CW (.ref x :: ([V.str sg, V.ref m] ++ [])) (upd (upd H2 dx (.own x)) x (.ins CW dx [])) (fun v H3 => v = .non ∧ Q (.ref x) H3) E) E := by
  intro m dm nm ndm nmm
  refine ⟨m, dm, .ref b, rfl, upd_same, rfl, fun x dx nx ndx nxx => ?_⟩
  have s1 : Same H (upd H dm (.own m)) := same_upd ndm
  have n1 : (upd H dm (.own m)) m = none := by rw [upd_ne nmm.symm]; exact nm
  have s2 : Same (upd H dm (.own m)) (upd (upd (upd H dm (.own m)) m (.ins CM dm [])) m (.ins CM dm [("content", .ref b)])) := same_put (same_upd n1) n1
  have em : (upd (upd (upd H dm (.own m)) m (.ins CM dm [])) m (.ins CM dm [("content", .ref b)])) m = some (.ins CM dm [("content", .ref b)]) := upd_same
  generalize upd (upd (upd H dm (.own m)) m (.ins CM dm [])) m (.ins CM dm [("content", .ref b)]) = H2 at s2 em nx ndx ⊢
  have s02 := s1.trans s2
  have s3 : Same H2 (upd H2 dx (.own x)) := same_upd ndx
  have n3 : (upd H2 dx (.own x)) x = none := by rw [upd_ne nxx.symm]; exact nx
  have s4 : Same (upd H2 dx (.own x)) (upd (upd H2 dx (.own x)) x (.ins CW dx [])) := same_upd n3
  have ex : (upd (upd H2 dx (.own x)) x (.ins CW dx [])) x = some (.ins CW dx []) := upd_same
  have s24 := s3.trans s4
  generalize upd (upd H2 dx (.own x)) x (.ins CW dx []) = H4 at s24 ex ⊢
  refine ⟨x, dx, sg, m, l, rfl, ex, hsg, .inl ⟨b, dm, s24 _ _ em, hb.same (s02.trans s24)⟩, hl, hrl, fun H' p bt e hp => ⟨rfl, q x H' (fun c o ec => ?_) ⟨dx, p, e, hp⟩⟩⟩
  have e2 := s02 _ _ ec
  exact bt _ _ (ne_of_none e2 nx) (s24 _ _ e2)
section
variable {P : Program} {w : World} {K : PySem.W.Frag} {mg : Str → Option Value} {base : Heap}
def spMul (K : PySem.W.Frag) (CW : Addr) : Sp := fun vs H Q _ => ∃ (a b : Addr) (sg : Str) (l k : Row), vs = [.ref a, .ref b] ∧ Signs sg ∧ WordAt K CW H a sg l ∧ WordAt K CW H b sg k ∧ l.length ≤ 200 ∧ k.length ≤ 200 ∧ (rowOf (l ++ k)).length ≤ 200 ∧
  ∀ x H', Same H H' → WordAt K CW H' x sg (rowOf (l ++ k)) → Q (.ref x) H'
theorem scMul : FnScope ["self", "other"] ["self", "other"] (defScope sMul) := ⟨rfl, rfl, rfl, by decide +kernel, rfl, by decide +kernel, by decide +kernel⟩
theorem ok_mul {CM CW fMI fWI f : Addr} {dMI dWI fd : FuncData} (F : Fun K "__mul__" "Word.__mul__" sMul f fd) (T : Txt K mg) (G : Makes4 P w K mg base CM CW fMI fWI dMI dWI) : FnOk P w K mg base CX0 6 f fd ["self", "other"] (spMul K CW) := by
  refine F.ok scMul (fun vs H Q E h => ?_) (fun cdv A outer s H vs Q E hr h => ?_)
  · obtain ⟨a, b, sg, l, k, rfl, _⟩ := h
    rfl
  · obtain ⟨a, b, sg, l, k, rfl, hsg, ⟨da, pa, ha, hl⟩, ⟨db, pb, hb, hk⟩, ll, lk, lr, q⟩ := h
    have r2 : Room 2 _ := hr.mono (by decide)
    refine ⟨_, pss_cons (ps_if (PW.pt (pw_or (pt_not (pt_val (pe_callB call_isi (by rfl) T.isi (by decide +kernel) (pa_cons (pv 1) (pa_cons (pe_glob (v := .ref CW) (by rfl) G.W.gW rfl) pa_nil)))))
        (pw_or1 (pt_cmpR op_ne (pe_fld (pv 1) rfl) (pe_fld (pv 0) rfl) (nomark _))))) (pss_one ps_never) pss_nil)
      (pss_one (ps_ret (pe_make G.mW G.gWI hr (by rfl) G.W.gW G.bWI .nil pass0 (pa_cons (pe_fld (pv 0) rfl) (pa_cons (pe_make G.mM G.gMI r2 (by rfl) G.W.gM G.bMI .nil pass0
        (pa_cons (pe_op op_catRow (pe_fld (pv 0) rfl) (pe_fld (pv 1) rfl)) pa_nil)) pa_nil))))), ?_⟩
    refine ⟨_, rfl, _, _, _, _, _, rfl, .own CW, G.W.tyW _ _ _ _ hb, G.W.iWW, true, rfl, ?_⟩
    refine ⟨_, rfl, b, CW, db, _, _, rfl, hb, G.W.clW, G.W.nL, rfl, _, rfl, a, CW, da, _, _, rfl, ha, G.W.clW, G.W.nL, rfl, rfl, _, rfl, ?_⟩
    rw [decide_eq_true rfl]
    refine iteF ?_
    refine ⟨_, rfl, a, CW, da, _, _, rfl, ha, G.W.clW, G.W.nL, rfl, ?_⟩
    refine ⟨_, rfl, a, CW, da, _, _, rfl, ha, G.W.clW, G.W.nR, rfl, _, rfl, b, CW, db, _, _, rfl, hb, G.W.clW, G.W.nR, rfl, ?_⟩
    refine ⟨pa, pb, l, k, rfl, rfl, hl, hk, by omega, fun p H1 s1 h1 => ?_⟩
    exact made_word G hsg h1 (by rw [List.length_append]; omega) lr fun x H' s h => q x H' (s1.trans s) h
end
end K4

set_option Elab.async false
set_option linter.all false
set_option maxRecDepth 100000
set_option maxHeartbeats 3200000
namespace K4
open PySem L2 Tx Tg Tm
abbrev sLen : Stmt := wdef 6
abbrev sEq : Stmt := wdef 8
theorem eqv_rows : ∀ l k : Row, PyData.eqvAll (rowsD l) (rowsD k) = decide (l = k)
  | [], [] => rfl
  | [], _ :: _ => rfl
  | _ :: _, [] => rfl
  | p :: l, q :: k => by
    show (((p.1 == q.1) && ((p.2 == q.2) && true)) && PyData.eqvAll (rowsD l) (rowsD k)) = _
    rw [eqv_rows l k, Bool.and_true, Bool.eq_iff_iff]
    simp only [Bool.and_eq_true, beq_iff_eq, decide_eq_true_eq, List.cons.injEq]
    constructor
    · rintro ⟨⟨h1, h2⟩, h3⟩
      exact ⟨Prod.ext h1 h2, h3⟩
    · rintro ⟨rfl, h3⟩
      exact ⟨⟨rfl, rfl⟩, h3⟩
section
variable {P : Program} {w : World} {K : PySem.W.Frag} {mg : Str → Option Value} {base : Heap}
def spInv (K : PySem.W.Frag) (CW : Addr) : Sp := fun vs H Q _ => ∃ (a : Addr) (sg : Str) (l : Row), vs = [.ref a] ∧ Signs sg ∧ WordAt K CW H a sg l ∧ l.length ≤ 200 ∧ ∀ x H', Same H H' → WordAt K CW H' x sg (rowOf (undo l)) → Q (.ref x) H'
theorem scInv : FnScope ["self"] ["self"] (defScope sInv) := ⟨rfl, rfl, rfl, by decide +kernel, rfl, by decide +kernel, by decide +kernel⟩
theorem ok_inv {CM CW fMI fWI f fU : Addr} {dMI dWI fd fdU : FuncData} (F : Fun K "__invert__" "Word.__invert__" sInv f fd) (T : Txt K mg) (G : Makes4 P w K mg base CM CW fMI fWI dMI dWI) (DU : Df K mg "undone_runs" sUndo ["runs"] fU fdU) : FnOk P w K mg base CX0 6 f fd ["self"] (spInv K CW) := by
  have GU := ok_undone (P := P) (w := w) (base := base) DU.F T
  refine F.ok scInv (fun vs H Q E h => ?_) (fun cdv A outer s H vs Q E hr h => ?_)
  · obtain ⟨a, sg, l, rfl, _⟩ := h
    rfl
  · obtain ⟨a, sg, l, rfl, hsg, ⟨da, pa, ha, hl⟩, ll, q⟩ := h
    have r1 : Room 1 _ := hr.mono (by decide)
    have r2 : Room 2 _ := hr.mono (by decide)
    refine ⟨_, pss_one (ps_ret (pe_make G.mW G.gWI hr (by rfl) G.W.gW G.bWI .nil pass0 (pa_cons (pe_fld (pv 0) rfl) (pa_cons (pe_make G.mM G.gMI r2 (by rfl) G.W.gM G.bMI .nil pass0
        (pa_cons (pe_call GU r1 (by rfl) DU.m DU.F.kp DU.b .nil pass0 (pa_cons (pe_fld (pv 0) rfl) pa_nil)) pa_nil)) pa_nil)))), ?_⟩
    refine ⟨_, rfl, a, CW, da, _, _, rfl, ha, G.W.clW, G.W.nL, rfl, ?_⟩
    refine ⟨_, rfl, a, CW, da, _, _, rfl, ha, G.W.clW, G.W.nR, rfl, ?_⟩
    refine ⟨pa, l, rfl, hl, by omega, fun p H1 s1 h1 => ?_⟩
    have := rowOf_len (undo l)
    have e := undo_len l
    exact made_word G hsg h1 (by omega) (by omega) fun x H' s h => q x H' (s1.trans s) h
def spLen (K : PySem.W.Frag) (CW : Addr) : Sp := fun vs H Q _ => ∃ (a : Addr) (sg : Str) (l : Row), vs = [.ref a] ∧ WordAt K CW H a sg l ∧ Q (.int (l.length : Nat)) H
theorem scLen : FnScope ["self"] ["self"] (defScope sLen) := ⟨rfl, rfl, rfl, by decide +kernel, rfl, by decide +kernel, by decide +kernel⟩
theorem ok_len {CM CW f : Addr} {fd : FuncData} (F : Fun K "__len__" "Word.__len__" sLen f fd) (T : Txt K mg) (W : WF K mg CM CW) : FnOk P w K mg base CX0 1 f fd ["self"] (spLen K CW) := by
  refine F.ok scLen (fun vs H Q E h => ?_) (fun cdv A outer s H vs Q E hr h => ?_)
  · obtain ⟨a, sg, l, rfl, _⟩ := h
    rfl
  · obtain ⟨a, sg, l, rfl, ⟨da, pa, ha, ys, hy, hp⟩, q⟩ := h
    refine ⟨_, pss_one (ps_ret (pe_callB call_len_seq (by rfl) T.len PySem.boot_len (pa_cons (pe_fld (pv 0) rfl) pa_nil))), ?_⟩
    refine ⟨_, rfl, a, CW, da, _, _, rfl, ha, W.clW, W.nR, rfl, pa, ys, rfl, .inr hy, ?_⟩
    rw [hp.length]
    exact q
def spEq (K : PySem.W.Frag) (CW : Addr) : Sp := fun vs H Q _ => ∃ (a b : Addr) (sg : Str) (l k : Row), vs = [.ref a, .ref b] ∧ WordAt K CW H a sg l ∧ WordAt K CW H b sg k ∧ Pl l ∧ Pl k ∧ Q (.bl (decide (l = k))) H
theorem scEq : FnScope ["self", "other"] ["self", "other"] (defScope sEq) := ⟨rfl, rfl, rfl, by decide +kernel, rfl, by decide +kernel, by decide +kernel⟩
theorem ok_eq {CM CW f : Addr} {fd : FuncData} (F : Fun K "__eq__" "Word.__eq__" sEq f fd) (T : Txt K mg) (W : WF K mg CM CW) : FnOk P w K mg base CX0 1 f fd ["self", "other"] (spEq K CW) := by
  refine F.ok scEq (fun vs H Q E h => ?_) (fun cdv A outer s H vs Q E hr h => ?_)
  · obtain ⟨a, b, sg, l, k, rfl, _⟩ := h
    rfl
  · obtain ⟨a, b, sg, l, k, rfl, ⟨da, pa, ha, xs, hx, px⟩, ⟨db, pb, hb, ys, hy, py⟩, pl, pk, q⟩ := h
    refine ⟨_, pss_one (ps_ret (pe_and (pe_callB call_isi (by rfl) T.isi (by decide +kernel) (pa_cons (pv 1) (pa_cons (pe_glob (v := .ref CW) (by rfl) W.gW rfl) pa_nil)))
      (pe_and (pe_cmpR op_eq (pe_fld (pv 0) rfl) (pe_fld (pv 1) rfl) (nomark _)) (pe_one (pe_cmpR (op_eqD hr.units) (pe_fld (pv 0) rfl) (pe_fld (pv 1) rfl) (nomark _)))))), ?_⟩
    refine ⟨_, rfl, _, _, _, _, _, rfl, .own CW, W.tyW _ _ _ _ hb, W.iWW, true, rfl, iteT ?_⟩
    refine ⟨_, rfl, a, CW, da, _, _, rfl, ha, W.clW, W.nL, rfl, _, rfl, b, CW, db, _, _, rfl, hb, W.clW, W.nL, rfl, rfl, _, rfl, ?_⟩
    rw [decide_eq_true rfl]
    refine iteT ?_
    refine ⟨_, rfl, a, CW, da, _, _, rfl, ha, W.clW, W.nR, rfl, _, rfl, b, CW, db, _, _, rfl, hb, W.clW, W.nR, rfl, ?_⟩
    refine ⟨.tuple (rowsD l), .tuple (rowsD k), .tup hx (rows_all px), .tup hy (rows_all py), shaped_row pl, shaped_row pk, ?_⟩
    have e : PyData.eqv (.tuple (rowsD l)) (.tuple (rowsD k)) = decide (l = k) := eqv_rows l k
    rw [e]
    exact q
end
end K4

set_option linter.all false
/-! turns of points, as lists: put together, undone, and how often they lead all points back -/
namespace Pm
variable {n p q : Nat} {t u v : List Nat}
/-- where a turn leads a point -/
def to (t : List Nat) (p : Nat) : Nat := t.getD p 0
def Turn (n : Nat) (t : List Nat) : Prop := t.Perm (List.range n)
theorem to_get (h : p < t.length) : to t p = t[p] := by
  unfold to
  rw [List.getD_eq_getElem?_getD, List.getElem?_eq_getElem h]
  rfl
theorem Turn.len (h : Turn n t) : t.length = n := by
  have := h.length_eq
  rw [List.length_range] at this
  exact this
theorem Turn.mem (h : Turn n t) : p ∈ t ↔ p < n := h.mem_iff.trans List.mem_range
theorem Turn.nodup (h : Turn n t) : t.Nodup := h.nodup_iff.mpr List.nodup_range
theorem Turn.lt (h : Turn n t) (hp : p < n) : to t p < n := by
  have hp' : p < t.length := by rw [h.len]; exact hp
  rw [to_get hp']
  exact h.mem.mp (List.getElem_mem hp')
def joint (t u : List Nat) : List Nat := t.map (to u)
theorem range_map (h : u.length = n) : (List.range n).map (to u) = u := by
  apply List.ext_getElem
  · rw [List.length_map, List.length_range, h]
  · intro i h1 h2
    rw [List.getElem_map, List.getElem_range, to_get h2]
theorem turn_joint (h : Turn n t) (k : Turn n u) : Turn n (joint t u) := by
  have := h.map (to u)
  rw [range_map k.len] at this
  exact this.trans k
theorem joint_len : (joint t u).length = t.length := List.length_map ..
theorem to_joint (hp : p < t.length) : to (joint t u) p = to u (to t p) := by
  rw [to_get (by rw [joint_len]; exact hp), to_get hp]
  exact List.getElem_map ..
theorem joint_assoc (h : Turn n t) (k : Turn n u) : joint (joint t u) v = joint t (joint u v) := by
  unfold joint
  rw [List.map_map]
  refine List.map_congr_left fun x hx => ?_
  exact (to_joint (t := u) (u := v) (by rw [k.len]; exact h.mem.mp hx)).symm
theorem to_still (hp : p < n) : to (List.range n) p = p := by
  rw [to_get (by rw [List.length_range]; exact hp), List.getElem_range]
theorem joint_still (h : Turn n t) : joint t (List.range n) = t := by
  unfold joint
  have : t.map (to (List.range n)) = t.map id := List.map_congr_left fun x hx => to_still (h.mem.mp hx)
  rw [this, List.map_id]
theorem still_joint (h : Turn n t) : joint (List.range n) t = t := range_map h.len
theorem still_turn : Turn n (List.range n) := List.Perm.refl _
/-- two turns are the same if they lead all points so -/
theorem turn_ext (h : Turn n t) (k : Turn n u) (e : ∀ p, p < n → to t p = to u p) : t = u := by
  rw [← range_map h.len, ← range_map k.len]
  exact List.map_congr_left fun x hx => e x (List.mem_range.mp hx)
theorem nodup_inj {l : List Nat} (h : l.Nodup) {i j : Nat} (hi : i < l.length) (hj : j < l.length) (e : l[i] = l[j]) : i = j := by
  rcases Nat.lt_trichotomy i j with c | c | c
  · exact absurd e (List.pairwise_iff_getElem.mp h i j hi hj c)
  · exact c
  · exact absurd e.symm (List.pairwise_iff_getElem.mp h j i hj hi c)
def undone (t : List Nat) : List Nat := (List.range t.length).map fun q => t.idxOf q
theorem to_idx (h : Turn n t) (hq : q < n) : to t (t.idxOf q) = q := by
  have hm := h.mem.mpr hq
  rw [to_get (List.idxOf_lt_length_of_mem hm)]
  exact List.getElem_idxOf _
theorem idx_to (h : Turn n t) (hp : p < n) : t.idxOf (to t p) = p := by
  have hp' : p < t.length := by rw [h.len]; exact hp
  have hm : to t p ∈ t := h.mem.mpr (h.lt hp)
  have hl := List.idxOf_lt_length_of_mem hm
  have e : t[t.idxOf (to t p)] = t[p] := by
    rw [List.getElem_idxOf]
    exact to_get hp'
  exact nodup_inj h.nodup hl hp' e
theorem undone_len : (undone t).length = t.length := by
  unfold undone
  rw [List.length_map, List.length_range]
theorem to_undone (h : Turn n t) (hq : q < n) : to (undone t) q = t.idxOf q := by
  have hq' : q < t.length := by rw [h.len]; exact hq
  rw [to_get (by rw [undone_len]; exact hq')]
  unfold undone
  rw [List.getElem_map, List.getElem_range]
theorem turn_undone (h : Turn n t) : Turn n (undone t) := by
  have h1 : undone t = (List.range n).map fun q => t.idxOf q := by unfold undone; rw [h.len]
  have h2 : t.map (fun q => t.idxOf q) = List.range n := by
    apply List.ext_getElem
    · rw [List.length_map, h.len, List.length_range]
    · intro i h3 h4
      rw [List.length_range] at h4
      rw [List.getElem_map, List.getElem_range]
      have := idx_to h h4
      rw [to_get (by rw [h.len]; exact h4)] at this
      exact this
  have h3 := (h.symm).map fun q => t.idxOf q
  rw [h2] at h3
  rw [h1]
  exact h3
theorem joint_undone (h : Turn n t) : joint t (undone t) = List.range n :=
  turn_ext (turn_joint h (turn_undone h)) still_turn fun p hp => by
    rw [to_joint (by rw [h.len]; exact hp), to_undone h (h.lt hp), idx_to h hp, to_still hp]
theorem undone_joint (h : Turn n t) : joint (undone t) t = List.range n :=
  turn_ext (turn_joint (turn_undone h) h) still_turn fun p hp => by
    rw [to_joint (by rw [(turn_undone h).len]; exact hp), to_undone h hp, to_idx h hp, to_still hp]
theorem undone_undone (h : Turn n t) : undone (undone t) = t := by
  have k := turn_undone h
  have e : joint (joint (undone (undone t)) (undone t)) t = joint (undone (undone t)) (joint (undone t) t) := joint_assoc (turn_undone k) k
  rw [undone_joint k, undone_joint h, still_joint h, joint_still (turn_undone k)] at e
  exact e.symm
theorem undone_of_joint (h : Turn n t) (k : Turn n u) : undone (joint t u) = joint (undone u) (undone t) := by
  have hj := turn_joint h k
  have hu := turn_undone hj
  refine turn_ext hu (turn_joint (turn_undone k) (turn_undone h)) fun p hp => ?_
  rw [to_undone hj hp, to_joint (by rw [(turn_undone k).len]; exact hp), to_undone k hp]
  have hp1 : u.idxOf p < n := by
    have := List.idxOf_lt_length_of_mem (k.mem.mpr hp)
    rw [k.len] at this
    exact this
  rw [to_undone h hp1]
  have hp2 : t.idxOf (u.idxOf p) < n := by
    have := List.idxOf_lt_length_of_mem (h.mem.mpr hp1)
    rw [h.len] at this
    exact this
  have e : to (joint t u) (t.idxOf (u.idxOf p)) = p := by rw [to_joint (by rw [h.len]; exact hp2), to_idx h hp1, to_idx k hp]
  have := idx_to hj hp2
  rw [e] at this
  exact this
theorem to_inj (h : Turn n t) (hp : p < n) (hq : q < n) (e : to t p = to t q) : p = q := by
  rw [← idx_to h hp, e, idx_to h hq]
/-! again and again -/
def it (t : List Nat) : Nat → Nat → Nat
  | 0, p => p
  | k + 1, p => to t (it t k p)
theorem it_lt (h : Turn n t) (hp : p < n) : ∀ k, it t k p < n
  | 0 => hp
  | k + 1 => h.lt (it_lt h hp k)
theorem it_add (t : List Nat) (a : Nat) (p : Nat) : ∀ b, it t (b + a) p = it t b (it t a p)
  | 0 => by rw [Nat.zero_add]; rfl
  | b + 1 => by
    rw [show b + 1 + a = (b + a) + 1 by omega]
    show to t (it t (b + a) p) = to t (it t b (it t a p))
    rw [it_add t a p b]
theorem it_comm (t : List Nat) (a b p : Nat) : it t a (it t b p) = it t b (it t a p) := by rw [← it_add, ← it_add, Nat.add_comm]
theorem it_mul {m : Nat} (e : it t m p = p) : ∀ c, it t (m * c) p = p
  | 0 => rfl
  | c + 1 => by
    rw [Nat.mul_succ, it_add, e]
    exact it_mul e c
theorem it_inj (h : Turn n t) (hp : p < n) (hq : q < n) : ∀ k, it t k p = it t k q → p = q
  | 0, e => e
  | k + 1, e => it_inj h hp hq k (to_inj h (it_lt h hp k) (it_lt h hq k) e)
/-- if no earlier one comes back, then all that come back are multiples -/
theorem it_dvd {m : Nat} (h : Turn n t) (hp : p < n) (hm : 0 < m) (e : it t m p = p) (hl : ∀ k, 0 < k → k < m → it t k p ≠ p) (k : Nat) : it t k p = p ↔ m ∣ k := by
  constructor
  · intro hk
    have e2 : it t (k % m) p = p := by
      have := Nat.div_add_mod k m
      have e3 : it t (k % m + m * (k / m)) p = p := by rw [Nat.add_comm, this]; exact hk
      rw [it_add, it_mul e] at e3
      exact e3
    by_cases h0 : k % m = 0
    · exact Nat.dvd_of_mod_eq_zero h0
    · exact absurd e2 (hl _ (Nat.pos_of_ne_zero h0) (Nat.mod_lt _ hm))
  · rintro ⟨c, rfl⟩
    exact it_mul e c
/-- the order: just the multiples lead all points back -/
def Ord (n : Nat) (t : List Nat) (L : Nat) : Prop := 0 < L ∧ ∀ k, (∀ p, p < n → it t k p = p) ↔ L ∣ k
theorem ord_uniq {L M : Nat} (a : Ord n t L) (b : Ord n t M) : L = M :=
  Nat.dvd_antisymm ((a.2 M).mp ((b.2 M).mpr (Nat.dvd_refl M))) ((b.2 L).mp ((a.2 L).mpr (Nat.dvd_refl L)))
theorem ord_undone {L : Nat} (h : Turn n t) (a : Ord n t L) : Ord n (undone t) L := by
  refine ⟨a.1, fun k => Iff.trans ?_ (a.2 k)⟩
  have b1 : ∀ k p, p < n → it t k (it (undone t) k p) = p := by
    intro k
    induction k with
    | zero => intro p hp; rfl
    | succ k ih =>
      intro p hp
      have hq := it_lt (turn_undone h) hp k
      have e : it t (k + 1) (to (undone t) (it (undone t) k p)) = it t k (to t (to (undone t) (it (undone t) k p))) := it_add t 1 _ k
      show it t (k + 1) (to (undone t) (it (undone t) k p)) = p
      rw [e, to_undone h hq, to_idx h hq]
      exact ih p hp
  constructor
  · intro hk p hp
    have := b1 k p hp
    rw [hk p hp] at this
    exact this
  · intro hk p hp
    have := b1 k p hp
    rw [hk _ (it_lt (turn_undone h) hp k)] at this
    exact this
theorem ord_conj {L : Nat} {c d s : List Nat} (hc : Turn n c) (hd : Turn n d) (hs : Turn n s) (e : ∀ p, p < n → to d (to s p) = to s (to c p)) (a : Ord n c L) : Ord n d L := by
  refine ⟨a.1, fun k => Iff.trans ?_ (a.2 k)⟩
  have b1 : ∀ k p, p < n → it d k (to s p) = to s (it c k p) := by
    intro k
    induction k with
    | zero => intro p hp; rfl
    | succ k ih =>
      intro p hp
      show to d (it d k (to s p)) = to s (to c (it c k p))
      rw [ih p hp, e _ (it_lt hc hp k)]
  constructor
  · intro hk p hp
    have := b1 k p hp
    rw [hk _ (hs.lt hp)] at this
    exact (to_inj hs hp (it_lt hc hp k) this).symm
  · intro hk q hq
    have := b1 k (s.idxOf q) (by
      have := List.idxOf_lt_length_of_mem (hs.mem.mpr hq)
      rw [hs.len] at this
      exact this)
    rw [to_idx hs hq, hk _ (by
      have := List.idxOf_lt_length_of_mem (hs.mem.mpr hq)
      rw [hs.len] at this
      exact this), to_idx hs hq] at this
    exact this
theorem ord_one {L : Nat} (h : Turn n t) (a : Ord n t L) : L = 1 ↔ t = List.range n := by
  have e := a.2 1
  constructor
  · intro hl
    refine turn_ext h still_turn fun p hp => ?_
    rw [to_still hp]
    exact e.mpr (by rw [hl]; exact Nat.dvd_refl 1) p hp
  · intro ht
    exact Nat.dvd_one.mp (e.mp fun p hp => by
      show to t p = p
      rw [ht]
      exact to_still hp)
/-- so many of a turn -/
def pw (t : List Nat) : Nat → List Nat
  | 0 => t
  | k + 1 => joint (pw t k) t
theorem turn_pw (h : Turn n t) : ∀ k, Turn n (pw t k)
  | 0 => h
  | k + 1 => turn_joint (turn_pw h k) h
theorem to_pw (h : Turn n t) (hp : p < n) : ∀ k, to (pw t k) p = it t (k + 1) p
  | 0 => rfl
  | k + 1 => by
    show to (joint (pw t k) t) p = to t (it t (k + 1) p)
    rw [to_joint (by rw [(turn_pw h k).len]; exact hp), to_pw h hp k]
theorem pw_still {L k : Nat} (h : Turn n t) (a : Ord n t L) : pw t k = List.range n ↔ L ∣ k + 1 := by
  rw [← a.2 (k + 1)]
  constructor
  · intro e p hp
    rw [← to_pw h hp, e, to_still hp]
  · intro e
    exact turn_ext (turn_pw h k) still_turn fun p hp => by rw [to_pw h hp, e p hp, to_still hp]
end Pm

set_option linter.all false
/-! the rows of points that a turn leads round -/
namespace Pm
variable {n : Nat} {t : List Nat}
theorem len_le : ∀ {l r : List Nat}, l.Nodup → (∀ x ∈ l, x ∈ r) → l.length ≤ r.length
  | [], _, _, _ => Nat.zero_le _
  | a :: l, r, hn, hs => by
    have ha := hs a List.mem_cons_self
    have hn' := List.nodup_cons.mp hn
    have := len_le (l := l) (r := r.erase a) hn'.2 fun x hx => by
      have hne : x ≠ a := fun e => hn'.1 (e ▸ hx)
      exact (List.mem_erase_of_ne hne).mpr (hs x (List.mem_cons_of_mem _ hx))
    have h1 := List.length_erase_of_mem ha
    have h2 := List.length_pos_of_mem ha
    rw [List.length_cons]
    omega
theorem small_len {l : List Nat} (h : l.Nodup) (hl : ∀ x ∈ l, x < n) : l.length ≤ n := by
  have := len_le (r := List.range n) h fun x hx => List.mem_range.mpr (hl x hx)
  rw [List.length_range] at this
  exact this
/-- what is known ahead of the start i -/
structure Out (n : Nat) (t : List Nat) (i : Nat) (S M : List Nat) : Prop where
  nd : S.Nodup
  lt : ∀ p ∈ S, p < n
  cl : ∀ p, p < n → (p ∈ S ↔ to t p ∈ S)
  all : ∀ p, p < i → p ∈ S
  per : ∀ k, (∀ p ∈ S, it t k p = p) ↔ ∀ m ∈ M, m ∣ k
  sz : ∀ m ∈ M, 1 ≤ m ∧ m ≤ n
  ln : M.length ≤ i
def walk (t : List Nat) (s j : Nat) : List Nat := (List.range j).map fun k => it t k s
theorem walk_succ (t : List Nat) (s j : Nat) : walk t s (j + 1) = walk t s j ++ [it t j s] := by
  unfold walk
  rw [List.range_succ, List.map_append]
  rfl
theorem mem_walk {s j x : Nat} : x ∈ walk t s j ↔ ∃ k, k < j ∧ it t k s = x := by
  unfold walk
  rw [List.mem_map]
  constructor
  · rintro ⟨k, hk, e⟩
    exact ⟨k, List.mem_range.mp hk, e⟩
  · rintro ⟨k, hk, e⟩
    exact ⟨k, List.mem_range.mpr hk, e⟩
theorem walk_len (t : List Nat) (s j : Nat) : (walk t s j).length = j := by
  unfold walk
  rw [List.length_map, List.length_range]
/-- what is known on the way from the start s -/
structure In (S : List Nat) (t : List Nat) (s j : Nat) : Prop where
  nd : (walk t s j).Nodup
  off : ∀ x ∈ walk t s j, x ∉ S
theorem in_zero (S : List Nat) (t : List Nat) (s : Nat) : In S t s 0 := ⟨List.nodup_nil, fun x hx => by cases hx⟩
theorem in_succ {S : List Nat} {s j : Nat} (h : In S t s j) (hp : it t j s ∉ S ++ walk t s j) : In S t s (j + 1) := by
  rw [List.mem_append, not_or] at hp
  constructor
  · rw [walk_succ]
    refine List.nodup_append.mpr ⟨h.nd, by simp, fun x hx y hy e => ?_⟩
    rw [List.mem_singleton.mp hy] at e
    exact hp.2 (e ▸ hx)
  · intro x hx
    rw [walk_succ] at hx
    rcases List.mem_append.mp hx with hx | hx
    · exact h.off x hx
    · rw [List.mem_singleton.mp hx]
      exact hp.1
theorem in_le {S : List Nat} {s j : Nat} (ht : Turn n t) (hs : s < n) (h : In S t s j) : j ≤ n := by
  have := small_len (n := n) h.nd fun x hx => by
    obtain ⟨k, _, e⟩ := mem_walk.mp hx
    rw [← e]
    exact it_lt ht hs k
  rw [walk_len] at this
  exact this
theorem out_zero : Out n t 0 [] [] := ⟨List.nodup_nil, (fun p hp => (by cases hp)), (fun p _ => ⟨(fun h => (by cases h)), (fun h => (by cases h))⟩), (fun p hp => absurd hp (Nat.not_lt_zero p)), (fun k => ⟨(fun _ m hm => (by cases hm)), (fun _ p hp => (by cases hp))⟩), (fun m hm => (by cases hm)), Nat.le_refl 0⟩
theorem out_same {i : Nat} {S M : List Nat} (h : Out n t i S M) (hi : i ∈ S) : Out n t (i + 1) S M :=
  ⟨h.nd, h.lt, h.cl, fun p hp => by
    rcases Nat.lt_succ_iff_lt_or_eq.mp hp with c | c
    · exact h.all p c
    · rw [c]; exact hi, h.per, h.sz, by have := h.ln; omega⟩
theorem it_mem {i : Nat} {S M : List Nat} (ht : Turn n t) (h : Out n t i S M) {s : Nat} (hs : s < n) : ∀ k, it t k s ∈ S → s ∈ S
  | 0, e => e
  | k + 1, e => it_mem ht h hs k ((h.cl _ (it_lt ht hs k)).mpr e)
theorem it_back {s j : Nat} {S M : List Nat} {i : Nat} (ht : Turn n t) (h : Out n t i S M) (hs : s < n) (hI : In S t s (j + 1)) (hp : it t (j + 1) s ∈ S ++ walk t s (j + 1)) : it t (j + 1) s = s := by
  have h0 : s ∉ S := hI.off s (mem_walk.mpr ⟨0, Nat.succ_pos j, rfl⟩)
  rcases List.mem_append.mp hp with hp | hp
  · exact absurd (it_mem ht h hs _ hp) h0
  · obtain ⟨k, hk, e⟩ := mem_walk.mp hp
    cases k with
    | zero => exact e.symm
    | succ k =>
      have e2 : it t k s = it t j s := to_inj ht (it_lt ht hs k) (it_lt ht hs j) e
      have hl : (walk t s (j + 1)).length = j + 1 := walk_len ..
      have e3 : (walk t s (j + 1))[k]'(by omega) = (walk t s (j + 1))[j]'(by omega) := by
        unfold walk
        rw [List.getElem_map, List.getElem_map, List.getElem_range, List.getElem_range]
        exact e2
      have := nodup_inj hI.nd _ _ e3
      omega
theorem out_succ {j i : Nat} {S M : List Nat} (ht : Turn n t) (h : Out n t i S M) (hs : i < n) (hI : In S t i (j + 1)) (hp : it t (j + 1) i ∈ S ++ walk t i (j + 1)) : Out n t (i + 1) (S ++ walk t i (j + 1)) (M ++ [j + 1]) := by
  have hb := it_back ht h hs hI hp
  have hne : ∀ k, 0 < k → k < j + 1 → it t k i ≠ i := by
    intro k h0 hk e
    have hl : (walk t i (j + 1)).length = j + 1 := walk_len ..
    have e3 : (walk t i (j + 1))[k]'(by omega) = (walk t i (j + 1))[0]'(by omega) := by
      unfold walk
      rw [List.getElem_map, List.getElem_map, List.getElem_range, List.getElem_range]
      exact e
    have := nodup_inj hI.nd _ _ e3
    omega
  refine ⟨?_, ?_, ?_, ?_, ?_, ?_, ?_⟩
  · refine List.nodup_append.mpr ⟨h.nd, hI.nd, fun x hx y hy e => ?_⟩
    exact hI.off y hy (e ▸ hx)
  · intro p hp'
    rcases List.mem_append.mp hp' with c | c
    · exact h.lt p c
    · obtain ⟨k, _, e⟩ := mem_walk.mp c
      rw [← e]
      exact it_lt ht hs k
  · intro p hpn
    rw [List.mem_append, List.mem_append]
    constructor
    · rintro (c | c)
      · exact .inl ((h.cl p hpn).mp c)
      · obtain ⟨k, hk, e⟩ := mem_walk.mp c
        refine .inr (mem_walk.mpr ?_)
        by_cases hk2 : k + 1 < j + 1
        · exact ⟨k + 1, hk2, by show to t (it t k i) = to t p; rw [e]⟩
        · have : k = j := by omega
          subst this
          exact ⟨0, by omega, by
            show i = to t p
            rw [← e]
            exact hb.symm⟩
    · rintro (c | c)
      · exact .inl ((h.cl p hpn).mpr c)
      · obtain ⟨k, hk, e⟩ := mem_walk.mp c
        refine .inr (mem_walk.mpr ?_)
        cases k with
        | zero =>
          refine ⟨j, Nat.lt_succ_self j, to_inj ht (it_lt ht hs j) hpn ?_⟩
          exact hb.trans e
        | succ k => exact ⟨k, by omega, to_inj ht (it_lt ht hs k) hpn e⟩
  · intro p hp'
    rcases Nat.lt_succ_iff_lt_or_eq.mp hp' with c | c
    · exact List.mem_append_left _ (h.all p c)
    · rw [c]
      exact List.mem_append_right _ (mem_walk.mpr ⟨0, Nat.succ_pos j, rfl⟩)
  · intro k
    have e1 : (∀ p ∈ walk t i (j + 1), it t k p = p) ↔ (j + 1) ∣ k := by
      rw [← it_dvd ht hs (Nat.succ_pos j) hb hne k]
      constructor
      · intro a
        exact a i (mem_walk.mpr ⟨0, Nat.succ_pos j, rfl⟩)
      · intro a p hp'
        obtain ⟨m, _, e⟩ := mem_walk.mp hp'
        rw [← e, it_comm, a]
    constructor
    · intro a m hm
      rcases List.mem_append.mp hm with c | c
      · exact (h.per k).mp (fun p hp' => a p (List.mem_append_left _ hp')) m c
      · rw [List.mem_singleton.mp c]
        exact e1.mp fun p hp' => a p (List.mem_append_right _ hp')
    · intro a p hp'
      rcases List.mem_append.mp hp' with c | c
      · exact (h.per k).mpr (fun m hm => a m (List.mem_append_left _ hm)) p c
      · exact e1.mpr (a _ (List.mem_append_right _ (List.mem_singleton.mpr rfl))) p c
  · intro m hm
    rcases List.mem_append.mp hm with c | c
    · exact h.sz m c
    · rw [List.mem_singleton.mp c]
      exact ⟨by omega, in_le ht hs hI⟩
  · have := h.ln
    rw [List.length_append, List.length_singleton]
    omega
/-- what the lengths tell -/
structure Lens (n : Nat) (t : List Nat) (M : List Nat) : Prop where
  per : ∀ k, (∀ p, p < n → it t k p = p) ↔ ∀ m ∈ M, m ∣ k
  sz : ∀ m ∈ M, 1 ≤ m ∧ m ≤ n
  ln : M.length ≤ n
theorem out_end {S M : List Nat} (h : Out n t n S M) : Lens n t M :=
  ⟨fun k => Iff.trans ⟨fun a p hp => a p (h.lt p hp), fun a p hp => a p (h.all p hp)⟩ (h.per k), h.sz, h.ln⟩
def lcmOf (M : List Nat) : Nat := M.foldl (fun a m => Nat.lcm a m) 1
theorem lcm_dvd (k : Nat) : ∀ (M : List Nat) (a : Nat), M.foldl (fun a m => Nat.lcm a m) a ∣ k ↔ a ∣ k ∧ ∀ m ∈ M, m ∣ k
  | [], a => by simp
  | m :: M, a => by
    show M.foldl (fun a m => Nat.lcm a m) (Nat.lcm a m) ∣ k ↔ _
    rw [lcm_dvd k M, Nat.lcm_dvd_iff]
    constructor
    · rintro ⟨⟨h1, h2⟩, h3⟩
      refine ⟨h1, fun x hx => ?_⟩
      rcases List.mem_cons.mp hx with rfl | hx
      · exact h2
      · exact h3 x hx
    · rintro ⟨h1, h2⟩
      exact ⟨⟨h1, h2 m List.mem_cons_self⟩, fun x hx => h2 x (List.mem_cons_of_mem _ hx)⟩
theorem lcm_take {M : List Nat} {i m : Nat} (h : M[i]? = some m) : lcmOf (M.take (i + 1)) = Nat.lcm (lcmOf (M.take i)) m := by
  unfold lcmOf
  rw [List.take_add_one, h, List.foldl_append]
  rfl
theorem lcm_pos : ∀ (M : List Nat), (∀ m ∈ M, 1 ≤ m) → ∀ a, 0 < a → 0 < M.foldl (fun a m => Nat.lcm a m) a
  | [], _, a, h => h
  | m :: M, hM, a, h => lcm_pos M (fun x hx => hM x (List.mem_cons_of_mem _ hx)) _ (Nat.lcm_pos h (hM m List.mem_cons_self))
theorem lcm_bound {b : Nat} (hb : 1 ≤ b) : ∀ (M : List Nat), (∀ m ∈ M, m ≤ b) → ∀ a, M.foldl (fun a m => Nat.lcm a m) a ≤ a * b ^ M.length
  | [], _, a => by simp
  | m :: M, hM, a => by
    have h1 := lcm_bound hb M (fun x hx => hM x (List.mem_cons_of_mem _ hx)) (Nat.lcm a m)
    have h2 : Nat.lcm a m ≤ a * m := by
      unfold Nat.lcm
      exact Nat.div_le_self _ _
    have h3 : a * m ≤ a * b := Nat.mul_le_mul_left _ (hM m List.mem_cons_self)
    show M.foldl (fun a m => Nat.lcm a m) (Nat.lcm a m) ≤ a * b ^ (M.length + 1)
    refine Nat.le_trans h1 (Nat.le_trans (Nat.mul_le_mul_right _ (Nat.le_trans h2 h3)) ?_)
    rw [Nat.pow_succ, Nat.mul_assoc, Nat.mul_comm b]
    exact Nat.le_refl _
theorem ord_lcm {M : List Nat} (h : Lens n t M) : Ord n t (lcmOf M) :=
  ⟨lcm_pos M (fun m hm => (h.sz m hm).1) 1 Nat.one_pos, fun k => by
    rw [h.per k]
    unfold lcmOf
    rw [lcm_dvd k M 1]
    exact ⟨fun a => ⟨Nat.one_dvd k, a⟩, fun a => a.2⟩⟩
end Pm

set_option linter.all false
/-! signed texts: neighbours that undo one another, taken out in any order, leave the same; and the rows of runs of them. A sign is a letter and whether it is a capital; a stack lies with its last sign ahead. -/
namespace Cu
variable {α : Type} [DecidableEq α]
def opp (x : α × Bool) : α × Bool := (x.1, !x.2)
theorem opp_opp (x : α × Bool) : opp (opp x) = x := by
  obtain ⟨a, b⟩ := x
  show (a, !(!b)) = (a, b)
  rw [Bool.not_not]
def pushS (x : α × Bool) : List (α × Bool) → List (α × Bool)
  | [] => [x]
  | y :: r => if y = opp x then r else x :: y :: r
/-- no neighbours undo one another -/
def Plain : List (α × Bool) → Prop
  | [] => True
  | [_] => True
  | x :: y :: r => y ≠ opp x ∧ Plain (y :: r)
theorem Plain.tail {x : α × Bool} {r : List (α × Bool)} (h : Plain (x :: r)) : Plain r := by
  cases r with
  | nil => trivial
  | cons y r => exact h.2
theorem plain_push {x : α × Bool} {s : List (α × Bool)} (h : Plain s) : Plain (pushS x s) := by
  cases s with
  | nil => trivial
  | cons y r =>
    show Plain (if y = opp x then r else x :: y :: r)
    by_cases e : y = opp x
    · rw [if_pos e]
      exact h.tail
    · rw [if_neg e]
      exact ⟨e, h⟩
theorem push_pair {x : α × Bool} {s : List (α × Bool)} (h : Plain s) : pushS (opp x) (pushS x s) = s := by
  cases s with
  | nil =>
    show (if x = opp (opp x) then [] else [opp x, x]) = []
    rw [if_pos (opp_opp x).symm]
  | cons y r =>
    show pushS (opp x) (if y = opp x then r else x :: y :: r) = y :: r
    by_cases e : y = opp x
    · rw [if_pos e]
      cases r with
      | nil => rw [e]; rfl
      | cons z r =>
        have hz : z ≠ opp (opp x) := by
          rw [← e]
          exact h.1
        show (if z = opp (opp x) then r else opp x :: z :: r) = y :: z :: r
        rw [if_neg hz, e]
    · rw [if_neg e]
      show (if x = opp (opp x) then y :: r else opp x :: x :: y :: r) = y :: r
      rw [if_pos (opp_opp x).symm]
def run (s l : List (α × Bool)) : List (α × Bool) := l.foldl (fun s x => pushS x s) s
theorem run_app (s l m : List (α × Bool)) : run s (l ++ m) = run (run s l) m := List.foldl_append
theorem plain_run : ∀ {l s : List (α × Bool)}, Plain s → Plain (run s l)
  | [], _, h => h
  | x :: l, s, h => plain_run (l := l) (plain_push h)
/-- a pair taken out changes nothing -/
theorem run_cut {s l r : List (α × Bool)} {x : α × Bool} (h : Plain s) : run s (l ++ x :: opp x :: r) = run s (l ++ r) := by
  rw [run_app, run_app]
  show run (pushS (opp x) (pushS x (run s l))) r = _
  rw [push_pair (plain_run h)]
/-- what is left of a plain text is the text -/
theorem run_plain : ∀ {l s : List (α × Bool)}, Plain (l.reverse ++ s) → run s l = l.reverse ++ s
  | [], _, _ => rfl
  | x :: l, s, h => by
    rw [List.reverse_cons, List.append_assoc] at h ⊢
    have hs : Plain (x :: s) := by
      have : ∀ m : List (α × Bool), Plain (m ++ x :: s) → Plain (x :: s) := by
        intro m
        induction m with
        | nil => exact fun h => h
        | cons y m ih => exact fun h => ih h.tail
      exact this _ h
    have e : pushS x s = x :: s := by
      cases s with
      | nil => rfl
      | cons y r =>
        show (if y = opp x then r else x :: y :: r) = x :: y :: r
        rw [if_neg hs.1]
    show run (pushS x s) l = l.reverse ++ (x :: s)
    rw [e]
    exact run_plain h
theorem plain_rev_aux : ∀ (l : List (α × Bool)), (∀ i (h : i + 1 < l.length), l[i + 1] ≠ opp l[i]) → Plain l
  | [], _ => trivial
  | [_], _ => trivial
  | x :: y :: r, h => ⟨h 0 (by simp), plain_rev_aux (y :: r) fun i hi => h (i + 1) (by simpa using hi)⟩
/-- told by places -/
theorem plain_rev {l : List (α × Bool)} (h : ∀ i (h : i + 1 < l.length), l[i + 1] ≠ opp l[i]) : Plain l.reverse := by
  refine plain_rev_aux _ fun i hi => ?_
  rw [List.length_reverse] at hi
  rw [List.getElem_reverse, List.getElem_reverse]
  have := h (l.length - 1 - (i + 1)) (by omega)
  intro e
  have e2 : l.length - 1 - (i + 1) + 1 = l.length - 1 - i := by omega
  refine this ?_
  have e3 : l[l.length - 1 - (i + 1) + 1]'(by omega) = l[l.length - 1 - i]'(by omega) := by congr 1
  rw [e3, e, opp_opp]
/-- the reduced text -/
def nf (l : List (α × Bool)) : List (α × Bool) := (run [] l).reverse
theorem nf_cut {l r : List (α × Bool)} {x : α × Bool} : nf (l ++ x :: opp x :: r) = nf (l ++ r) := by
  unfold nf
  rw [run_cut (by exact trivial)]
theorem nf_plain {l : List (α × Bool)} (h : ∀ i (h : i + 1 < l.length), l[i + 1] ≠ opp l[i]) : nf l = l := by
  unfold nf
  rw [run_plain (by rw [List.append_nil]; exact plain_rev h), List.append_nil, List.reverse_reverse]
/-! ### runs -/
/-- a sign as a run -/
def sg (x : α × Bool) : α × Int := (x.1, if x.2 then -1 else 1)
/-- the signs of a run -/
def ex1 (p : α × Int) : List (α × Bool) := List.replicate p.2.natAbs (p.1, decide (p.2 < 0))
/-- the signs of a row (both with the last ahead) -/
def ex : List (α × Int) → List (α × Bool)
  | [] => []
  | p :: r => ex1 p ++ ex r
theorem ex1_pos {a : α} {n : Int} (h : 0 < n) : ex1 (a, n + 1) = (a, false) :: ex1 (a, n) := by
  unfold ex1
  have e : (n + 1).natAbs = n.natAbs + 1 := by omega
  rw [e, List.replicate_succ, decide_eq_false (by show ¬ (n + 1 < 0); omega), decide_eq_false (by show ¬ (n < 0); omega)]
theorem ex1_neg {a : α} {n : Int} (h : n < 0) : ex1 (a, n + -1) = (a, true) :: ex1 (a, n) := by
  unfold ex1
  have e : (n + -1).natAbs = n.natAbs + 1 := by omega
  rw [e, List.replicate_succ, decide_eq_true (by show n + -1 < 0; omega), decide_eq_true (by show n < 0; omega)]
theorem ex1_head {p : α × Int} (h : p.2 ≠ 0) : ∃ r, ex1 p = (p.1, decide (p.2 < 0)) :: r := by
  unfold ex1
  cases e : p.2.natAbs with
  | zero => exact absurd (Int.natAbs_eq_zero.mp e) h
  | succ n => exact ⟨_, List.replicate_succ⟩
theorem ex_push {x : α × Bool} {r : List (α × Int)} (h : Wm.Red r) : ex (Wm.push (sg x) r) = pushS x (ex r) := by
  obtain ⟨a, b⟩ := x
  have h1 : (sg (a, b)).2 ≠ 0 := by
    cases b
    · exact show (1 : Int) ≠ 0 by decide
    · exact show (-1 : Int) ≠ 0 by decide
  have e1 : ex1 (sg (a, b)) = [(a, b)] := by cases b <;> rfl
  cases r with
  | nil =>
    show ex (if (sg (a, b)).2 = 0 then [] else [sg (a, b)]) = _
    rw [if_neg h1]
    show ex1 (sg (a, b)) ++ [] = [(a, b)]
    rw [e1]
    rfl
  | cons q t =>
    obtain ⟨c, n⟩ := q
    have hn : n ≠ 0 := h.head
    show ex (if (sg (a, b)).2 = 0 then (c, n) :: t else if c = a then (if n + (sg (a, b)).2 = 0 then t else (c, n + (sg (a, b)).2) :: t) else sg (a, b) :: (c, n) :: t) = pushS (a, b) (ex1 (c, n) ++ ex t)
    rw [if_neg h1]
    by_cases ec : c = a
    · subst ec
      rw [if_pos rfl]
      cases b with
      | false =>
        show ex (if n + 1 = 0 then t else (c, n + 1) :: t) = _
        by_cases e0 : n + 1 = 0
        · have : n = -1 := by omega
          subst this
          rw [if_pos e0]
          show _ = (if (c, true) = opp (c, false) then ex t else _)
          rw [if_pos (show (c, true) = opp (c, false) from rfl)]
        · rw [if_neg e0]
          show ex1 (c, n + 1) ++ ex t = _
          by_cases hp : 0 < n
          · rw [ex1_pos hp]
            obtain ⟨m, em⟩ := ex1_head (p := (c, n)) hn
            rw [em, decide_eq_false (by show ¬ (n < 0); omega)]
            show _ = (if (c, false) = opp (c, false) then _ else (c, false) :: (c, false) :: (m ++ ex t))
            rw [if_neg (by intro z; injection z with _ z; cases z)]
            rfl
          · have hm : n + 1 < 0 := by omega
            have := ex1_neg (a := c) hm
            rw [show n + 1 + -1 = n by omega] at this
            rw [this]
            show _ = (if (c, true) = opp (c, false) then ex1 (c, n + 1) ++ ex t else _)
            rw [if_pos (show (c, true) = opp (c, false) from rfl)]
      | true =>
        show ex (if n + -1 = 0 then t else (c, n + -1) :: t) = _
        by_cases e0 : n + -1 = 0
        · have : n = 1 := by omega
          subst this
          rw [if_pos e0]
          show _ = (if (c, false) = opp (c, true) then ex t else _)
          rw [if_pos (show (c, false) = opp (c, true) from rfl)]
        · rw [if_neg e0]
          show ex1 (c, n + -1) ++ ex t = _
          by_cases hp : n < 0
          · rw [ex1_neg hp]
            obtain ⟨m, em⟩ := ex1_head (p := (c, n)) hn
            rw [em, decide_eq_true (show n < 0 from hp)]
            show _ = (if (c, true) = opp (c, true) then _ else (c, true) :: (c, true) :: (m ++ ex t))
            rw [if_neg (by intro z; injection z with _ z; cases z)]
            rfl
          · have hm : 0 < n + -1 := by omega
            have := ex1_pos (a := c) hm
            rw [show n + -1 + 1 = n by omega] at this
            rw [this]
            show _ = (if (c, false) = opp (c, true) then ex1 (c, n + -1) ++ ex t else _)
            rw [if_pos (show (c, false) = opp (c, true) from rfl)]
    · rw [if_neg ec]
      show ex1 (sg (a, b)) ++ (ex1 (c, n) ++ ex t) = _
      rw [e1]
      obtain ⟨m, em⟩ := ex1_head (p := (c, n)) hn
      rw [em]
      show (a, b) :: ((c, decide (n < 0)) :: (m ++ ex t)) = (if (c, decide (n < 0)) = opp (a, b) then _ else _)
      rw [if_neg fun z => ec (congrArg Prod.fst z)]
      rfl
theorem ex_joint : ∀ {l : List (α × Bool)} {r : List (α × Int)}, Wm.Red r → ex (Wm.joint r (l.map sg)) = run (ex r) l
  | [], _, _ => rfl
  | x :: l, r, h => by
    show ex (Wm.joint (Wm.push (sg x) r) (l.map sg)) = run (pushS x (ex r)) l
    rw [← ex_push h]
    exact ex_joint (Wm.red_push h)
/-- the row of a signed text, written out, is the reduced text -/
theorem ex_row (l : List (α × Bool)) : (ex (Wm.joint [] (l.map sg))).reverse = nf l := by
  rw [ex_joint (by exact trivial)]
  rfl
theorem ex_inj : ∀ {r t : List (α × Int)}, Wm.Red r → Wm.Red t → ex r = ex t → r = t
  | [], [], _, _, _ => rfl
  | [], q :: t, _, h, e => by
    obtain ⟨m, em⟩ := ex1_head h.head
    have e : ([] : List (α × Bool)) = ex1 q ++ ex t := e
    rw [em] at e
    cases e
  | p :: r, [], h, _, e => by
    obtain ⟨m, em⟩ := ex1_head h.head
    have e : ex1 p ++ ex r = ([] : List (α × Bool)) := e
    rw [em] at e
    cases e
  | (a, m) :: r, (b, n) :: t, h, k, e => by
    have e : ex1 (a, m) ++ ex r = ex1 (b, n) ++ ex t := e
    obtain ⟨m1, em⟩ := ex1_head (p := (a, m)) h.head
    obtain ⟨n1, en⟩ := ex1_head (p := (b, n)) k.head
    have hm : m ≠ 0 := h.head
    have hn : n ≠ 0 := k.head
    have eh : (a, decide (m < 0)) = (b, decide (n < 0)) := by
      rw [em, en] at e
      exact (List.cons.inj e).1
    obtain ⟨rfl, es⟩ := Prod.mk.inj eh
    have es : decide (m < 0) = decide (n < 0) := es
    have hd : ∀ {a : α} {m : Int} {r : List (α × Int)} (b : Bool), Wm.Red ((a, m) :: r) → ∀ y s, ex r = y :: s → y ≠ (a, b) := by
      intro a m r b h y s e z
      cases r with
      | nil => cases e
      | cons q r =>
        obtain ⟨w, ew⟩ := ex1_head (p := q) h.tail.head
        have e : ex1 q ++ ex r = y :: s := e
        rw [ew] at e
        have := (List.cons.inj e).1
        rw [z] at this
        exact h.2.1 (congrArg Prod.fst this).symm
    have rep : ∀ (i j : Nat) (x : α × Bool) (u v : List (α × Bool)), (∀ y s, u = y :: s → y ≠ x) → (∀ y s, v = y :: s → y ≠ x) → List.replicate i x ++ u = List.replicate j x ++ v → i = j ∧ u = v := by
      intro i
      induction i with
      | zero =>
        intro j x u v hu hv e
        cases j with
        | zero => exact ⟨rfl, e⟩
        | succ j => exact absurd rfl (hu x (List.replicate j x ++ v) (by have : u = List.replicate (j + 1) x ++ v := e; rw [this, List.replicate_succ]; rfl))
      | succ i ih =>
        intro j x u v hu hv e
        cases j with
        | zero => exact absurd rfl (hv x (List.replicate i x ++ u) (by have : List.replicate (i + 1) x ++ u = v := e; rw [← this, List.replicate_succ]; rfl))
        | succ j =>
          rw [List.replicate_succ, List.replicate_succ] at e
          obtain ⟨e1, e2⟩ := ih j x u v hu hv (List.cons.inj e).2
          exact ⟨by rw [e1], e2⟩
    have e2 : List.replicate m.natAbs (a, decide (m < 0)) ++ ex r = List.replicate n.natAbs (a, decide (m < 0)) ++ ex t := by
      have : ex1 (a, n) = List.replicate n.natAbs (a, decide (m < 0)) := by
        show List.replicate n.natAbs (a, decide (n < 0)) = _
        rw [es]
      rw [← this]
      exact e
    obtain ⟨e3, e4⟩ := rep _ _ _ _ _ (hd _ h) (hd _ k) e2
    have emn : m = n := by
      by_cases z : m < 0
      · have : n < 0 := of_decide_eq_true (by rw [← es]; exact decide_eq_true z)
        omega
      · have : ¬ n < 0 := of_decide_eq_false (by rw [← es]; exact decide_eq_false z)
        omega
    subst emn
    rw [ex_inj h.tail k.tail e4]
/-- two signed texts have one row exactly if they are reduced to the same -/
theorem row_iff (l m : List (α × Bool)) : Wm.joint [] (l.map sg) = Wm.joint [] (m.map sg) ↔ nf l = nf m := by
  constructor
  · intro e
    rw [← ex_row, ← ex_row, e]
  · intro e
    rw [← ex_row, ← ex_row] at e
    exact ex_inj (Wm.red_joint trivial) (Wm.red_joint trivial) (List.reverse_inj.mp e)
end Cu

set_option Elab.async false
set_option linter.all false
set_option maxRecDepth 100000
set_option maxHeartbeats 3200000
/-! a == v, a != v with v of another kind; a[i] by an own __getitem__; str(a) by an own __str__ -/
namespace Ow
open PySem PySem.Spec PyProof.Rows L2
section
variable {X : Cx} {CX : CXT} {C f : Addr} {fd : FuncData} {ps : List Str} {sp : Sp} {E : XK} {k : Nat}
def rOwnX (K : PySem.W.Frag) (C : Addr) (sp : Sp) (E : XK) : R2 := fun x y H Q => ∃ a dx fs t, x = .ref a ∧ H a = some (.ins C dx fs) ∧ TyX K H y t ∧ PySem.W.notFirst K C t = true ∧ sp [.ref a, y] H Q E
theorem eq_ownX (F : FnOk X.prog X.w X.K X.mg X.base CX k f fd ps sp) (hr : Room k X.A) (hs : PySem.W.findIn X.K (.ref C) "__eq__" = some (some (.ref f))) (hf : PySem.W.isFn X.K (.ref f) = true)
    (hb : Binds X.K fd ps []) (hx : Passes CX X E) : OpR X (compareOp .Eq) (rOwnX X.K C sp E) := by
  intro pins s σ H x y u v Q I rx ry hq
  obtain ⟨a, dx, fs, t, rfl, ha, ty, hn, h⟩ := hq
  cases rx
  obtain ⟨mA, J, _⟩ := ins_get I.hok ha
  obtain ⟨od, J, _⟩ := J.look
  obtain ⟨m, hF⟩ := I.fr
  obtain ⟨P, Z, hP, _⟩ := kit_of I ry ty
  show wpAny (model X.prog X.w) X.A (richCompare .Eq (.ref a) v) (EP X pins σ Q) X.xe s
  refine PySem.W.cmp_K (op := .Eq) (tb := t) hr.units0 hF I.ok.mod.kin J (Z.ty _ _ I.kIn hP) hn hs hf ?_
  refine wpAny_mono (own_call F hr hb hx I (vs := [V.ref a, y]) (.cons rfl (.cons ry .nil)) h) (fun w s' z => ?_) fun _ _ e => e
  obtain ⟨v, H', I', rv, q⟩ := z
  have := no_ni rv
  cases w <;> first | exact absurd rfl this | exact ⟨v, H', I', rv, q⟩
def rOwnNeX (K : PySem.W.Frag) (C : Addr) (sp : Sp) (E : XK) : R2 := fun x y H Q => ∃ a dx fs t, x = .ref a ∧ H a = some (.ins C dx fs) ∧ TyX K H y t ∧ PySem.W.notFirst K C t = true ∧ sp [.ref a, y] H (fun v H' => ∃ t : Bool, v = .bl t ∧ Q (.bl (!t)) H') E
theorem ne_ownX (F : FnOk X.prog X.w X.K X.mg X.base CX k f fd ps sp) (hr : Room (k + 1) X.A) (hob : PySem.W.subIn X.K (.ref C) (.type "object") = some true) (hn0 : PySem.W.findIn X.K (.ref C) "__ne__" = some (some (.builtin "object.__ne__")))
    (hs : PySem.W.findIn X.K (.ref C) "__eq__" = some (some (.ref f))) (hf : PySem.W.isFn X.K (.ref f) = true) (hb : Binds X.K fd ps []) (hx : Passes CX X E) : OpR X (compareOp .NotEq) (rOwnNeX X.K C sp E) := by
  intro pins s σ H x y u v Q I rx ry hq
  obtain ⟨a, dx, fs, ty, rfl, ha, hty, hn, h⟩ := hq
  cases rx
  obtain ⟨mA, J, _⟩ := ins_get I.hok ha
  obtain ⟨od, J, _⟩ := J.look
  obtain ⟨m, hF⟩ := I.fr
  obtain ⟨P, Z, hP, _⟩ := kit_of I ry hty
  have X0 := I.ok.mod.kin.keeps hF.keep
  have hv := Z.ty (model X.prog X.w) _ I.kIn hP
  have inner := own_call1 (A := X.A.in1) rfl F hr.in1 hb hx I (vs := [V.ref a, y]) (us := [.ref a, v]) (.cons rfl (.cons ry .nil)) h
  have one : wpAny (model X.prog X.w) X.A (tryCompare (.ref a) "__ne__" v) (fun r s' => ∃ v, r = some v ∧ EP X pins σ Q v s') X.xe s := by
    unfold tryCompare
    refine wpAny_bind (ifBound_b X0 J hn0 PySem.F.cmp_object.ne.bind (wpAny_call (codeAny_call_builtin PySem.F.cmp_object.ne.plain PySem.F.cmpEntry_ne
      (PySem.W.check_slot PySem.F.cmpKind_ne PySem.F.cmpSplit_ne (J.type.andThen (PySem.W.looks_subIn X0 hob)) (PySem.F.cmpArgs_ne _ _) ?_))))
    unfold Builtin.«object.__ne__»
    repeat (first
      | with_reducible refine wpAny_cRoomFor hr.in1.units0 ?_
      | (refine wpAny_bind (m := callSpecialIfBound? (.ref a) (Str.ofString "__eq__") [v]) (PySem.W.ifBound_K X0 J hs hf (wpAny_mono inner (fun r s' hr' => ?_) fun _ _ e => e)))
      | wp_step)
    obtain ⟨v, H', I', rv, t, rfl, q⟩ := hr'
    obtain rfl : r = Value.bool t := rv
    repeat (first | (refine wpAny_bind (m := truthy (.bool _)) (wpAny_truthy_bool ?_)) | wp_step)
    first
      | exact ⟨_, rfl, .bl (!t), H', I', rfl, q⟩
      | exact wpAny_pure ⟨_, rfl, .bl (!t), H', I', rfl, q⟩
  show wpAny (model X.prog X.w) X.A (richCompare .NotEq (.ref a) v) (EP X pins σ Q) X.xe s
  unfold richCompare
  simp only [oneThing_ref]
  refine wpAny_holding (wpAny_bind (wpAny_cRoomFor hr.units0 ?_))
  refine wpAny_bind (J.type.here (wpAny_bind (hv.here ?_)))
  split
  · rename_i q
    have e : PySem.W.subIn X.K ty (.ref C) = some false := by
      rcases Bool.or_eq_true_iff.mp hn with e | e
      · rw [beq_iff_eq.mp e] at q; simp at q
      · exact beq_iff_eq.mp e
    refine wpAny_bind ((PySem.W.looks_subIn X0 e).here ?_)
    simp only [Bool.false_eq_true, if_false]
    refine wpAny_bind (wpAny_mono one (fun r s' z => ?_) fun _ _ e => e)
    obtain ⟨v, rfl, hq⟩ := z
    exact wpAny_pure hq
  · refine wpAny_bind (wpAny_pure ?_)
    simp only [Bool.false_eq_true, if_false]
    refine wpAny_bind (wpAny_mono one (fun r s' z => ?_) fun _ _ e => e)
    obtain ⟨v, rfl, hq⟩ := z
    exact wpAny_pure hq
/-- a[i] -/
def rOwnIx (C : Addr) (sp : Sp) (E : XK) : R2 := fun x y H Q => ∃ a dx fs, x = .ref a ∧ H a = some (.ins C dx fs) ∧ sp [.ref a, y] H Q E
theorem pe_ixOwn {a b : Expr} {ta tb : TE} {pos : Pos} (F : FnOk X.prog X.w X.K X.mg X.base CX k f fd ps sp) (hr : Room (k + 1) X.A) (hs : PySem.W.findIn X.K (.ref C) "__getitem__" = some (some (.ref f))) (hf : PySem.W.fnIn X.K f = true) (hfn : PySem.W.isFn X.K (.ref f) = true)
    (hb : Binds X.K fd ps []) (hx : Passes CX X E) (ha : PE X a ta) (hbb : PE X b tb) (hsl : ∀ o i, subscripted b true o i = runValue (.builtin "lifetime.subscript" ⟨[o, i], []⟩)) : PE X (.Subscript a b pos) (tOp (rOwnIx C sp E) ta tb) := by
  refine ⟨fun pins s σ H Q I h => ?_⟩
  refine Subscript_ (binT ha hbb I (R := fun x y H2 => rOwnIx C sp E x y H2 Q) h fun v u s2 x y H2 I2 rx ry q => ?_)
  obtain ⟨a, dx, fs, rfl, ha, h⟩ := q
  cases rx
  obtain ⟨mA, J, _⟩ := ins_get I2.hok ha
  obtain ⟨od, J, _⟩ := J.look
  obtain ⟨m, hF⟩ := I2.fr
  exact PySem.W.sub_K hF I2.ok.mod.kin J hs hf hfn (own_call1 (A := X.A.in1) rfl F hr.in1 hb hx I2 (vs := [V.ref a, y]) (.cons rfl (.cons ry .nil)) h) (hsl _ _)
/-- str(a) -/
def rStrOwn (C : Addr) (sp : Sp) (E : XK) : List V → Hp → VK → Prop := fun xs H Q => ∃ a dx fs, xs = [.ref a] ∧ H a = some (.ins C dx fs) ∧ sp [.ref a] H (fun v H' => ∃ z, v = .str z ∧ Q (.str z) H') E
theorem str_own (F : FnOk X.prog X.w X.K X.mg X.base CX k f fd ps sp) (hr : Room (k + 2) X.A) (hs : PySem.W.findIn X.K (.ref C) "__str__" = some (some (.ref f))) (hf : PySem.W.isFn X.K (.ref f) = true)
    (hb : Binds X.K fd ps []) (hx : Passes CX X E) : CallR X (.type "str") (rStrOwn C sp E) := by
  intro pins s σ H xs us Q I r hq
  obtain ⟨a, dx, fs, rfl, ha, h⟩ := hq
  obtain rfl := Vals.ref1 r
  obtain ⟨mA, J, _⟩ := ins_get I.hok ha
  obtain ⟨od, J, _⟩ := J.look
  obtain ⟨m, hF⟩ := I.fr
  refine PySem.W.kso_call hr.in1.in1.units0 I.kIn J hs hf ?_
  refine wpAny_mono (own_call1 (A := X.A.in1.in1) rfl F hr.in1.in1 hb hx I (vs := [V.ref a]) (.cons rfl .nil) h) (fun w s' z => ?_) fun _ _ e => e
  obtain ⟨v, H', I', rv, n, rfl, q⟩ := z
  obtain ⟨t, rfl⟩ := rv
  exact ⟨.str n, H', I', ⟨t, rfl⟩, q⟩
end
end Ow

set_option Elab.async false
set_option linter.all false
set_option maxRecDepth 100000
set_option maxHeartbeats 3200000
/-! a walk over an object by its own __iter__, which gives iter of a tuple -/
namespace Ow
open PySem PySem.Spec PyProof.Rows L2
/-- an iterator of the tuple at t, not begun -/
def ItT (t it : Addr) : HO := .ext fun h => h.IsTupleIter it t 0
section
variable {X : Cx} {pins : List (Addr × Obj)} {σ : L2.St} {H : Hp} {s : Shared}
def rIterT (K : PySem.W.Frag) (n : Nat) : List V → Hp → VK → Prop := fun xs H Q => ∃ (t : Addr) (zs : List V), xs = [.ref t] ∧ SqT K H t zs ∧ ∀ it, H it = none → n ≤ it → Q (.ref it) (upd H it (ItT t it))
theorem call_iterT : CallR X (.builtin "iter") (rIterT X.K X.s_0.heap.objs.size) := by
  intro pins s σ H xs us Q I r h
  obtain ⟨l, zs, rfl, hq, q⟩ := h
  obtain rfl := Vals.ref1 r
  obtain ⟨its, rv, pl, hz⟩ := I.tuple hq
  refine Calls.call_function_entry (by decide +kernel) (by decide +kernel) PySem.W.kdk_entry_iter (PySem.W.kdk_args_iter _) ?_
  unfold Builtin.«iter»
  refine wpAny_bind (m := someArgs "iter" 1 2 _) (wpAny_of_eq (a := [Value.ref l]) (by first | rfl | kernel_rfl!) ?_)
  show wpAny _ _ (pyIter (.ref l) >>= _) _ _ _
  refine wpAny_bind (wpAny_pyIter_tuple pl (wpAny_pure ⟨_, rfl, ?_⟩))
  have g : (s.heap.push { cls := .type "tuple_iterator", data := .fields #[.ref l, .int 0 0] }).get? s.heap.objs.size = some { cls := .type "tuple_iterator", data := .fields #[.ref l, .int 0 0] } := Heap.get?_push_size _ rfl
  have it : (s.heap.push { cls := .type "tuple_iterator", data := .fields #[.ref l, .int 0 0] }).IsTupleIter s.heap.objs.size l 0 := ⟨_, g, rfl, rfl⟩
  exact ⟨.ref s.heap.objs.size, _, I.laid (t' := s.toks) (fun b u e => Heap.get?_push_of_some _ e) (Nat.le_refl _) (show ObjOk X.prog X.w _ _ _ (ItT l _) from ⟨it, ⟨_, g⟩, fun h1 h2 q k => q.at k⟩), rfl, q _ (I.hok.fresh (Nat.le_refl _)) I.sz⟩
end
/-! ### a def's promise that knows how many things there are when it is called -/
structure FnS (P : Program) (w : World) (K : PySem.W.Frag) (mg : Str → Option Value) (base : Heap) (k : Nat) (f : Addr) (fd : FuncData) (ps : List Str) (sp : Nat → Sp) : Prop where
  long : ∀ n xs H Q E, sp n xs H Q E → xs.length = ps.length
  goes : ∀ (A : Around) (out : List Env) (s : Shared) (H : Hp) (args : Args) (us : List Value) (xs : List V) (Q : VK) (E : XK), Room k A → Env0 P w K mg base A out s H →
    BindsTo s fd args (ps.zip us) → Vals xs us → sp s.heap.objs.size xs H Q E → codeAny (model P w) A (.call (.ref f) args) (CR CX0 out P w H s Q E) s
theorem FnS.fn {P : Program} {w : World} {K : PySem.W.Frag} {mg : Str → Option Value} {base : Heap} {x qual : Str} {st : Stmt} {f : Addr} {fd : FuncData} {N ps : List Str} {k : Nat} {sp : Nat → Sp} (F : Fun K x qual st f fd) (S : FnScope N ps (defScope st))
    (long : ∀ n xs H Q E, sp n xs H Q E → xs.length = ps.length)
    (inner : ∀ (cdv : Value) (A : Around) (out : List Env) (s : Shared) (H : Hp) (xs : List V) (Q : VK) (E : XK), Room k (A.deeper (envOfC qual (defScope st) s.heap.objs.size f cdv)) → sp s.heap.objs.size xs H Q E →
      ∃ t, PSs (cxOf CX0 P w K mg base N qual (defScope st) f cdv A out s H E) (defBody st) t ∧ t { nx := fun _ H2 => Q .non H2, rt := Q } (start N xs) H) :
    FnS P w K mg base (k + 1) f fd ps sp := by
  obtain ⟨oc, od, kV, doc, pm, an, cdv, ct, osl, e, look, code⟩ := F.ex
  subst e
  refine ⟨long, ?_⟩
  intro A out s H args us xs Q E room e0 bound rel hsp
  have hl := long _ _ _ _ _ hsp
  have inK : K.In s.heap := e0.mod.kin.keeps fun b o e => (e0.bs b o e).1
  have limit : s.heap.NoLimit := e0.mod.nolimit.keeps fun b o e => (e0.bs b o e).1
  have kinds : ∀ y ∈ ps.zip us, (defScope st).names.lookup y.1 = some .local ∨
      ((defScope st).names.lookup y.1 = some .cell ∧ ((cellsFrom (s.heap.objs.size + 1) (defScope st).names []).lookup y.1).isSome = true) := by
    rintro ⟨n, v⟩ hy
    cases S.par n (List.of_mem_zip hy).1 with
    | inl q => exact .inl q
    | inr q => exact .inr ⟨q, PySem.W.cellsFrom_some _ _ _ (.inl q)⟩
  refine codeAny_call_function room.depth (inK _ _ look) rfl S.co S.gen rfl (PySem.W.codeRec_of inK code) (bound _ _ _ _ ?_)
  refine wpAny_newFunctionEnv_cells S.kind kinds fun env he z x => ?_
  subst he
  refine ⟨limit.keeps x.toInCall.keep, codeAny_func ?_⟩
  obtain ⟨t, ht, hq⟩ := inner cdv A out s H xs Q E (room.deeper _) hsp
  have J0 : Inv (cxOf CX0 P w K mg base N qual (defScope st) f cdv A out s H E) [] (start N xs) H z := inv_start S room.hd e0 hl rel x
  refine wpAny_mono (ht.run [] z (start N xs) H _ J0 hq) (fun fl z' hs => ?_) fun e z' hs => hs
  have close : ∀ {σ' : L2.St} {H2 : Hp} {v : V} {u : Value}, Inv (cxOf CX0 P w K mg base N qual (defScope st) f cdv A out s H E) [] σ' H2 z' → RelV v u → Q v H2 → CE out P w H s Q u z' := by
    intro σ' H2 v u J rv q
    exact ⟨v, H2, J.os, J.bare, J.base, J.hok, rv, q⟩
  cases fl with
  | ret u =>
    obtain ⟨v, σ', H2, J, rv, q⟩ := hs
    exact close J rv q
  | next =>
    obtain ⟨σ', H2, J, q⟩ := hs
    exact close (v := V.non) (u := Value.none) J rfl q
  | brk =>
    obtain ⟨_, _, _, q⟩ := hs
    exact q.elim
  | cont =>
    obtain ⟨_, _, _, q⟩ := hs
    exact q.elim
section
variable {X : Cx} {C f : Addr} {fd : FuncData} {ps : List Str} {sp : Nat → Sp} {E : XK} {k : Nat}
/-- for x in a: whatever the number of things is -/
def iOwn (K : PySem.W.Frag) (C : Addr) (sp : Nat → Sp) (E : XK) (to : TE) : TI := fun σ H R => to σ H fun x H1 => ∃ a dx fs, x = .ref a ∧ H1 a = some (.ins C dx fs) ∧
  ∀ n, sp n [.ref a] H1 (fun v H2 => ∃ it t, v = .ref it ∧ H1 it = none ∧ n ≤ it ∧ (∃ xs, SqT K H1 t xs) ∧ H2 = upd H1 it (ItT t it) ∧ R (Itt K t) H1) E
theorem pi_own {tg e : Expr} {to : TE} (F : FnS X.prog X.w X.K X.mg X.base k f fd ps sp) (hr : Room k X.A) (hs : PySem.W.findIn X.K (.ref C) "__iter__" = some (some (.ref f))) (hf : PySem.W.isFn X.K (.ref f) = true)
    (hb : Binds X.K fd ps []) (ho : PE X e to) : PI X tg e (iOwn X.K C sp E to) := by
  refine ⟨fun pins s σ H R I h => ?_⟩
  refine thn (ho.run pins s σ H _ I h) fun v s1 ⟨x, H1, I1, r1, a, dx, fs, ex, ha, q0⟩ => ?_
  subst ex
  cases r1
  obtain ⟨mA, J, _⟩ := ins_get I1.hok ha
  obtain ⟨od, J, _⟩ := J.look
  obtain ⟨m, hF⟩ := I1.fr
  refine PySem.W.owit_iter hF I1.ok.mod.kin J hs hf ?_
  have q1 := q0 s1.heap.objs.size
  have hl := F.long _ _ _ _ _ q1
  refine wpAny_call (codeAny_mono (F.goes X.A X.stack s1 H1 ⟨[.ref a], []⟩ [.ref a] [.ref a] _ E hr I1.env0 (by
    have := hb s1 [.ref a] I1.kIn (by rw [List.append_nil]; exact hl)
    simpa using this) (.cons rfl .nil) q1) fun r s' hq => ?_)
  cases r with
  | error e => exact False.elim hq
  | ok fl =>
    cases fl with
    | next => exact False.elim hq
    | brk => exact False.elim hq
    | cont => exact False.elim hq
    | ret w =>
      have hq0 : CE X.stack X.prog X.w H1 s1 _ w s' := hq
      obtain ⟨hh, g, d, tk, os'⟩ := s'
      obtain ⟨v, H2, os, bare, un, hok, rv, it, t, rfl, n1, hsz, ⟨xs, hxs⟩, rfl, hR⟩ := hq0
      obtain rfl : os' = s1.os := os
      cases rv
      have I2 : Inv X pins σ (upd H1 it (ItT t it)) ⟨hh, g, d, tk, s1.os⟩ := I1.call (h' := hh) (g' := g) (d' := d) (t' := tk) (ch := []) un hok bare (fun b z => absurd z (by simp))
      have hit : hh.IsTupleIter it t 0 := (show ObjOk X.prog X.w _ hh it (ItT t it) from hok it _ upd_same).1
      obtain ⟨oi, hoi, hci, hdi⟩ := id hit
      have I3 := ItX.inv_drop I2 (a := it) upd_same
      rw [ItX.dropH_upd n1] at I3
      refine wpAny_specialOf (T := "tuple_iterator") ⟨oi, hoi, hci⟩ PySem.F.slot_tuple_iterator_next.lookup ?_
      refine ⟨it, [it], _, Itt X.K t, H1, rfl, I3, turn_tuple t it, hit, fun b hb => ?_, hR⟩
      have e : b = it := by simpa using hb
      subst e
      exact I1.fpOk hsz n1
end
end Ow

set_option Elab.async false
set_option linter.all false
set_option maxRecDepth 100000
set_option maxHeartbeats 3200000
namespace K4
open PySem L2 Tx Tg Tm
/-! ### signed texts -/
def lowc (c : Nat) : Nat := if c < 97 then c + 32 else c
def dec (c : Nat) : Str × Bool := (one (lowc c), decide (c < 97))
/-- the signs of a text -/
def Ls (z : Str) : List (Str × Bool) := (cds z).map dec
def Vc (sg : Str) (c : Nat) : Prop := c ∈ cds sg ∨ (c < 97 ∧ c + 32 ∈ cds sg)
def Sgd (sg z : Str) : Prop := ∀ c ∈ cds z, Vc sg c
theorem sg_range {sg : Str} (h : Signs sg) : ∀ c ∈ cds sg, 97 ≤ c ∧ c ≤ 122 := by
  rcases h with rfl | rfl | rfl | rfl <;> decide +kernel
theorem Vc.range {sg : Str} {c : Nat} (h : Signs sg) (v : Vc sg c) : 65 ≤ c ∧ c < 123 ∧ (c ≤ 90 ∨ 97 ≤ c) := by
  rcases v with v | ⟨v1, v2⟩
  · have := sg_range h c v
    omega
  · have := sg_range h _ v2
    omega
theorem chk1 : ∀ c < 123, 65 ≤ c → (c ≤ 90 ∨ 97 ≤ c) → Txt.lower (one c) = one (lowc c) ∧ Txt.islower (one c) = decide (97 ≤ c) ∧ (Txt.upper (one (lowc c))) = one (lowc c - 32) := by decide +kernel
theorem one_inj {a b : Nat} (h : one a = one b) : a = b := by
  have e : cds (one a) = cds (one b) := congrArg cds h
  exact (List.cons.inj (show [a] = [b] from e)).1
theorem Vc.low {sg : Str} {c : Nat} (h : Signs sg) (v : Vc sg c) : lowc c ∈ cds sg := by
  rcases v with v | ⟨v1, v2⟩
  · have := sg_range h c v
    unfold lowc
    rw [if_neg (by omega)]
    exact v
  · unfold lowc
    rw [if_pos v1]
    exact v2
theorem sg_up {sg : Str} (h : Signs sg) : cds (sg ++ Txt.upper sg) = cds sg ++ (cds sg).map (· - 32) := by
  rcases h with rfl | rfl | rfl | rfl <;> decide +kernel
theorem sgd_mem {sg z : Str} (h : Signs sg) (v : Sgd sg z) : ∀ c ∈ cds z, c ∈ cds (sg ++ Txt.upper sg) := fun c hc => by
  rw [sg_up h, List.mem_append, List.mem_map]
  rcases v c hc with v | ⟨v1, v2⟩
  · exact .inl v
  · exact .inr ⟨c + 32, v2, by omega⟩
theorem has_sgd {sg z : Str} (h : Signs sg) (v : Sgd sg z) (hl : z.length ≤ 4000) : has (sg ++ Txt.upper sg) 4000 (.str z) = true := by
  show (decide (z.length ≤ 4000) && only z (sg ++ Txt.upper sg)) = true
  rw [decide_eq_true hl, only_iff.mpr (sgd_mem h v)]
  rfl
theorem fine_sgd {sg z : Str} (h : Signs sg) (v : Sgd sg z) (hl : z.length ≤ 4000) : Fine z := by
  refine ⟨by omega, ?_, fun c hc => ?_⟩
  · rw [← (ups_perm (cds z)).length_eq]
    have h1 := Pm.len_le (ups_nodup (cds z)) (r := cds (sg ++ Txt.upper sg)) fun c hc => sgd_mem h v c ((ups_mem _ c).mp hc)
    have h2 : (cds (sg ++ Txt.upper sg)).length ≤ 6 := by rcases h with rfl | rfl | rfl | rfl <;> decide +kernel
    omega
  · have := (v c hc).range h
    omega
theorem Vc.dec_lt {c : Nat} : (dec c).2 = decide (c < 97) := rfl
theorem dec_inj {sg : Str} (h : Signs sg) {c d : Nat} (v : Vc sg c) (w : Vc sg d) (e : dec c = dec d) : c = d := by
  have e1 := one_inj (congrArg Prod.fst e)
  have e2 : decide (c < 97) = decide (d < 97) := congrArg Prod.snd e
  have r1 := v.range h
  have r2 := w.range h
  unfold lowc at e1
  by_cases z : c < 97
  · have : d < 97 := of_decide_eq_true (by rw [← e2]; exact decide_eq_true z)
    rw [if_pos z, if_pos this] at e1
    omega
  · have : ¬ d < 97 := of_decide_eq_false (by rw [← e2]; exact decide_eq_false z)
    rw [if_neg z, if_neg this] at e1
    exact e1
theorem map_inj {sg : Str} (h : Signs sg) : ∀ {l m : List Nat}, (∀ c ∈ l, Vc sg c) → (∀ c ∈ m, Vc sg c) → l.map dec = m.map dec → l = m
  | [], [], _, _, _ => rfl
  | [], _ :: _, _, _, e => by cases e
  | _ :: _, [], _, _, e => by cases e
  | c :: l, d :: m, v, w, e => by
    obtain ⟨e1, e2⟩ := List.cons.inj e
    rw [dec_inj h (v c List.mem_cons_self) (w d List.mem_cons_self) e1, map_inj h (fun x hx => v x (List.mem_cons_of_mem _ hx)) (fun x hx => w x (List.mem_cons_of_mem _ hx)) e2]
/-- a text is told by its signs -/
theorem Ls_inj {sg z y : Str} (h : Signs sg) (v : Sgd sg z) (w : Sgd sg y) (e : Ls z = Ls y) : z = y := cds_ext (map_inj h v w e)
/-- neighbours that undo one another -/
theorem opp_iff {sg : Str} (h : Signs sg) {c d : Nat} (v : Vc sg c) (w : Vc sg d) : dec d = Cu.opp (dec c) ↔ c ≠ d ∧ lowc c = lowc d := by
  have r1 := v.range h
  have r2 := w.range h
  constructor
  · intro e
    have e1 := one_inj (congrArg Prod.fst e)
    have e2 : decide (d < 97) = !decide (c < 97) := congrArg Prod.snd e
    refine ⟨fun z => ?_, e1.symm⟩
    rw [z] at e2
    cases hh : decide (d < 97) <;> rw [hh] at e2 <;> cases e2
  · rintro ⟨n, e⟩
    have e2 : decide (d < 97) = !decide (c < 97) := by
      unfold lowc at e
      by_cases z1 : c < 97 <;> by_cases z2 : d < 97
      · rw [if_pos z1, if_pos z2] at e
        omega
      · rw [decide_eq_true z1, decide_eq_false z2]
        rfl
      · rw [decide_eq_false z1, decide_eq_true z2]
        rfl
      · rw [if_neg z1, if_neg z2] at e
        omega
    exact Prod.ext (congrArg one e.symm) e2
/-- the row of a text -/
def rowZ (z : Str) : Row := rowOf ((Ls z).map Cu.sg)
theorem rowZ_rev (z : Str) : (rowZ z).reverse = Wm.joint [] ((Ls z).map Cu.sg) := List.reverse_reverse _
theorem rowZ_red (z : Str) : Wm.Red (rowZ z).reverse := by
  rw [rowZ_rev]
  exact Wm.red_joint trivial
theorem rowZ_ex (z : Str) : (Cu.ex (rowZ z).reverse).reverse = Cu.nf (Ls z) := by
  rw [rowZ_rev, Cu.ex_row]
theorem rowZ_iff (z y : Str) : rowZ z = rowZ y ↔ Cu.nf (Ls z) = Cu.nf (Ls y) := by
  rw [← Cu.row_iff]
  exact ⟨fun e => List.reverse_inj.mp e, fun e => congrArg List.reverse e⟩
/-! ### what the program asks of a signed text -/
section
variable {P : Program} {w : World} {K : PySem.W.Frag} {mg : Str → Option Value} {base : Heap}
abbrev sOf : Stmt := wdef 1
def spSg : Sp := fun vs H Q _ => ∃ sg z : Str, vs = [.str sg, .str z] ∧ Signs sg ∧ Sgd sg z ∧ z.length ≤ 100 ∧ ∀ H', Same H H' → Q (.bl true) H'
theorem scSigned : FnScope ["letters", "value"] ["letters", "value"] (defScope sSigned) := ⟨rfl, rfl, rfl, by decide +kernel, rfl, by decide +kernel, by decide +kernel⟩
theorem sg_facts {sg : Str} (h : Signs sg) : sg.length ≤ 3 ∧ sg.length ≤ 5592405 ∧ (Txt.upper sg).length ≤ 3 := by
  rcases h with rfl | rfl | rfl | rfl <;> decide +kernel
theorem ok_signed {f fH fL fC : Addr} {fd fdH fdL fdC : FuncData} (F : Fun K "is_signed" "is_signed" sSigned f fd) (T : Txt K mg) (DH : Df K mg "has_only" sHas ["value", "signs", "most"] fH fdH)
    (DL : Df K mg "is_letters" sLetters ["value"] fL fdL) (DC : Df K mg "check_letters" sCheck ["value"] fC fdC) : FnOk P w K mg base CX0 4 f fd ["letters", "value"] spSg := by
  have G := ok_passL (P := P) (w := w) (base := base) DC.F T DH DL
  have GH := ok_has (P := P) (w := w) (base := base) DH.F T
  refine F.ok scSigned (fun vs H Q E h => ?_) (fun cdv A outer s H vs Q E hr h => ?_)
  · obtain ⟨sg, z, rfl, _⟩ := h
    rfl
  · obtain ⟨sg, z, rfl, hsg, hz, hl, q⟩ := h
    obtain ⟨tn, hn⟩ := T.mText
    refine ⟨_, pss_cons (ps_expr (pe_call G hr (by rfl) DC.m DC.F.kp DC.b .nil pass0 (pa_cons (pv 0) pa_nil)))
      (pss_one (ps_ret (pe_call GH (hr.mono (by decide)) (by rfl) DH.m DH.F.kp DH.b .nil pass0 (pa_cons (pv 1) (pa_cons
        (pe_op op_add_str (pv 0) (pe_bm0 PySem.F.plainAttrs_str PySem.F.slot_str_upper PySem.F.type_str_upper mt_upper (pv 0)))
        (pa_cons (pe_glob (v := .int 4000) rfl hn ⟨_, rfl⟩) pa_nil)))))), ?_⟩
    obtain ⟨l1, l2, l3⟩ := sg_facts hsg
    refine ⟨_, rfl, sg, rfl, hsg, fun H' s' => ?_⟩
    refine ⟨_, rfl, _, rfl, _, rfl, rfl, sg, rfl, rfl, l2, sg, Txt.upper sg, rfl, rfl, Nat.le_trans (show sg.length + (Txt.upper sg).length ≤ 6 by omega) (by decide), .str z, .str z, _, 4000, rfl, .str z, fine_sgd hsg hz (by omega), ?_⟩
    rw [has_sgd hsg hz (by omega)]
    exact q H' s'
def spCSg : Sp := fun vs H Q _ => ∃ sg z : Str, vs = [.str sg, .str z] ∧ Signs sg ∧ Sgd sg z ∧ z.length ≤ 100 ∧ ∀ H', Same H H' → Q .non H'
theorem scCSg : FnScope ["letters", "value"] ["letters", "value"] (defScope sCheckSigned) := ⟨rfl, rfl, rfl, by decide +kernel, rfl, by decide +kernel, by decide +kernel⟩
theorem ok_csigned {f fH fL fC fS : Addr} {fd fdH fdL fdC fdS : FuncData} (F : Fun K "check_signed" "check_signed" sCheckSigned f fd) (T : Txt K mg) (DH : Df K mg "has_only" sHas ["value", "signs", "most"] fH fdH)
    (DL : Df K mg "is_letters" sLetters ["value"] fL fdL) (DC : Df K mg "check_letters" sCheck ["value"] fC fdC) (DS : Df K mg "is_signed" sSigned ["letters", "value"] fS fdS) : FnOk P w K mg base CX0 5 f fd ["letters", "value"] spCSg := by
  have G := ok_signed (P := P) (w := w) (base := base) DS.F T DH DL DC
  refine F.ok scCSg (fun vs H Q E h => ?_) (fun cdv A outer s H vs Q E hr h => ?_)
  · obtain ⟨sg, z, rfl, _⟩ := h
    rfl
  · obtain ⟨sg, z, rfl, hsg, hz, hl, q⟩ := h
    refine ⟨_, pss_one (ps_if (pt_not (pt_val (pe_call G hr (by rfl) DS.m DS.F.kp DS.b .nil pass0 (pa_cons (pv 0) (pa_cons (pv 1) pa_nil))))) (pss_one ps_never) pss_nil), ?_⟩
    exact ⟨_, rfl, _, rfl, sg, z, rfl, hsg, hz, hl, fun H' s' => ⟨_, rfl, iteF (q H' s')⟩⟩
end
end K4

set_option Elab.async false
set_option linter.all false
set_option maxRecDepth 100000
set_option maxHeartbeats 3200000
namespace K4
open PySem L2 Tx Tg Tm
theorem lc_text {x : Str} {g : TG} {tt : TT} {te : TE} {vs : List Nat} {σ : L2.St} {H1 : Hp} {D : Addr} {Qd : Hp → Prop} (Pv : Nat → Hp → Prop) (h0 : Pv 0 (upd H1 D (.lst [])))
    (hs : ∀ i c H, (cds x)[i]? = some c → Pv i H → g (.str (one c)) (wipe σ vs) H fun σ2 H2 => wipe σ2 vs = wipe σ vs ∧ tt σ2 H2 fun b H3 =>
      if b = true then te σ2 H3 fun y H4 => ∃ acc, H4 D = some (.lst acc) ∧ acc.length < sizeLine ∧ Pv (i + 1) (upd H4 D (.lst (acc ++ [y]))) else Pv (i + 1) H3) (hd : ∀ H, Pv (cds x).length H → Qd H) :
    ∃ W : Nat → Nat → Hp → Prop, (∃ m, W 0 m (upd H1 D (.lst []))) ∧ ∀ i m H, W i m H →
      ((Its x).stop i H ∧ Qd H) ∨ ((Its x).go i H ∧ ∃ Nx : Hp → Prop, (∀ H', Nx H' → ∃ m', m' < m ∧ W (i + 1) m' H') ∧ ∀ v H', (Its x).yld i H v H' → g v (wipe σ vs) H' fun σ2 H2 => wipe σ2 vs = wipe σ vs ∧ tt σ2 H2 fun b H3 =>
        if b = true then te σ2 H3 fun y H4 => ∃ acc, H4 D = some (.lst acc) ∧ acc.length < sizeLine ∧ Nx (upd H4 D (.lst (acc ++ [y]))) else Nx H3) := by
  have hz : x.cps.size = (cds x).length := (Array.length_toList).symm
  refine ⟨fun i m H => m = (cds x).length - i ∧ i ≤ (cds x).length ∧ Pv i H, ⟨(cds x).length, by simp, Nat.zero_le _, h0⟩, ?_⟩
  rintro i m H ⟨rfl, hi, p⟩
  by_cases hlt : i < (cds x).length
  · refine .inr ⟨by show i < x.cps.size; omega, Pv (i + 1), fun H' p' => ⟨(cds x).length - (i + 1), by omega, rfl, hlt, p'⟩, ?_⟩
    rintro v H' ⟨e, c, hc, e2⟩
    subst e
    subst e2
    exact hs i c _ (by rw [Array.getElem?_toList]; exact hc) p
  · have e : i = (cds x).length := by omega
    subst e
    exact .inl ⟨by show x.cps.size ≤ _; omega, hd H p⟩
/-- cls(..), cls a variable -/
def tMakeV (i : Nat) (C : Addr) (sp : Sp) (dvs : List V) (E : XK) (t : TA) : TE := fun σ H Q => σ[i]? = some (some (.ref C)) ∧ tMake C sp dvs E t σ H Q
theorem pe_makeV {X : Cx} {CX : CXT} {k i : Nat} {f C : Addr} {fd : FuncData} {ps : List Str} {sp : Sp} {E : XK} {x : Str} {p pos : Pos} {e : Expr} {es : List Expr} {t : TA} {dvs : List V} {ds : List Value} (hv : PE X (.Name x p) (tVar i)) (M : Mk X.K C f)
    (F : FnOk X.prog X.w X.K X.mg X.base CX k f fd ps sp) (hr : Room (k + 1) X.A) (hb : Binds X.K fd ps ds) (hd : Vals dvs ds) (hx : Passes CX X E)
    (ha : PA X (e :: es) t) (he : starEach (e :: es) X.env = (false, eval e X.env) :: starEach es X.env := by rfl) (hpl : (backTo pos (starEach es X.env)).any (·.1) = false := by rfl) :
    PE X (.Call (.Name x p) (e :: es) [] pos) (tMakeV i C sp dvs E t) := by
  refine ⟨fun pins s σ H Q I h => ?_⟩
  obtain ⟨h0, h⟩ := h
  refine wpAny_Call_Name_kw (thn (hv.run pins s σ H (fun v H' => v = .ref C ∧ H' = H) I ⟨_, h0, rfl, rfl⟩) fun u s1 ⟨v, H1, I1, rv, e1, e2⟩ => ?_)
  subst e1 e2
  cases rv
  refine PySem.W.callWith_K (h₀ := X.base) I1.ok.mod.kin M.kp (thn (ha.run pos pins s1 σ _ _ I1 h) fun us s1 ⟨vs, H1, I1, r, q⟩ => ⟨I1.kIn, ?_⟩) he hpl
  exact run_make M F hr hb hd hx I1 r q
section
variable {P : Program} {w : World} {K : PySem.W.Frag} {mg : Str → Option Value} {base : Heap}
def LstRow (H : Hp) (a : Addr) (l : Row) : Prop := ∃ ys, H a = some (.lst ys) ∧ PairsAt H ys l
def spJoinL (K : PySem.W.Frag) : Sp := fun vs H Q _ => ∃ (a : Addr) (l : Row), vs = [.ref a] ∧ LstRow H a l ∧ l.length ≤ 1000000 ∧ ∀ p H' ys, H p = none → Same H H' → H' p = some (.tup ys) → PairsAt H' ys (rowOf l) → Q (.ref p) H'
theorem ok_joinL {f : Addr} {fd : FuncData} (F : Fun K "joined_runs" "joined_runs" sJoin f fd) (T : Txt K mg) : FnOk P w K mg base CX0 1 f fd ["pairs"] (spJoinL K) := by
  refine F.ok scJoin (fun vs H Q E h => ?_) (fun cdv A outer s H vs Q E hr h => ?_)
  · obtain ⟨a, l, rfl, _⟩ := h
    rfl
  · obtain ⟨a, l, rfl, ⟨ys0, ha, hp0⟩, hl, q⟩ := h
    refine ⟨_, pss_cons (ps_set (i := 1) scJoin.nd rfl (Or.inl rfl) (pe_lst pa_nil))
      (pss_cons (ps_for PassesOwn.never rfl (pi_list (pv 0)) (pg_tup rfl (pgs_cons (pg_name (i := 2) scJoin.nd rfl (Or.inl rfl)) (pgs_cons (pg_name (i := 3) scJoin.nd rfl (Or.inl rfl)) pgs_nil)))
        (pss_cons (ps_set (i := 4) scJoin.nd rfl (Or.inl rfl) (pv 3))
        (pss_cons (ps_if (PW.pt (pw_and (pt_truth (pv 1) (by intro _; rfl)) (pw_and1 (pt_cmpR op_eq (pe_ix ix_tup (pe_ix ix_list (pv 1) (pe_un un_neg pe_int) (fun _ _ => rfl)) pe_int (fun _ _ => rfl)) (pv 2) (nomark _)))))
          (pss_one (ps_set (i := 4) scJoin.nd rfl (Or.inl rfl) (pe_op op_add (pv 3) (pe_ix ix_tup (pe_bm0 PySem.F.plainAttrs_list PySem.F.slot_list_pop PySem.F.type_list_pop mt_pop (pv 1)) pe_int (fun _ _ => rfl))))) pss_nil)
        (pss_one (ps_if (pt_cmpR op_ne (pv 4) pe_int (nomark _)) (pss_one (ps_expr (pe_bm PySem.F.plainAttrs_list PySem.F.slot_list_append PySem.F.type_list_append mt_append (pv 1) (pa_cons (pe_tup (pa_cons (pv 2) (pa_cons (pv 4) pa_nil))) pa_nil)))) pss_nil)))))
      (pss_one (ps_ret (pe_callTy call_tuple_of (by rfl) T.tuple (by decide +kernel) (pa_cons (pv 1) pa_nil))))), ?_⟩
    refine ⟨by decide, fun p np => ?_⟩
    have s0 : Same H (upd H p (.lst [])) := same_upd np
    have sT : ∀ {H'}, Same H H' → SqL K H' a ys0 := fun s => SqL.of (s _ _ ha)
    have hlen : ys0.length = l.length := hp0.length
    refine ⟨_, rfl, a, rfl, ⟨_, sT s0⟩, ?_⟩
    refine for_list (xs := ys0) (fun i σ H1 => ∃ (t2 t3 t4 : Option V) (zs : List V), σ = [some (.ref a), some (.ref p), t2, t3, t4] ∧ Same H H1 ∧ H1 p = some (.lst zs.reverse) ∧ PairsAt H1 zs (Wm.joint [] (l.take i)))
      ⟨none, none, none, [], rfl, s0, upd_same, .nil⟩ (fun i σ H1 _ z => by obtain ⟨_, _, _, _, _, s, _⟩ := z; exact sT s) ?_ ?_
    · rintro i x σ H1 hx ⟨t2, t3, t4, zs, rfl, s1, e1, hz⟩
      have hi := (List.getElem?_eq_some_iff.mp hx).1
      have hi' : i < l.length := by omega
      obtain ⟨t, rfl, et⟩ : PairAt H x l[i] := hp0.zip (x, l[i]) (List.mem_of_getElem? (i := i) (by rw [List.getElem?_zip_eq_some]; exact ⟨hx, List.getElem?_eq_getElem hi'⟩))
      rw [joint_take (List.getElem?_eq_getElem hi')]
      have hred : Wm.Red (Wm.joint [] (l.take i)) := Wm.red_joint (r := ([] : Row)) trivial
      have hjl : (Wm.joint [] (l.take i)).length ≤ i := by
        have := joint_len (l.take i) []
        rw [List.length_take, List.length_nil] at this
        omega
      have hzl := hz.length
      generalize l[i] = pr at et ⊢
      generalize Wm.joint [] (l.take i) = acc at hz hred hjl hzl ⊢
      refine ⟨t, _, rfl, SqT.of (s1 _ _ et), rfl, _, _, rfl, _, _, rfl, rfl, ?_⟩
      refine ⟨_, rfl, ?_⟩
      have hres : ∀ {m : Int} {c r : Row}, (if m = 0 then c else (pr.1, m) :: c) = r → (if m = 0 then c else (pr.1, m) :: c) = r := fun h => h
      cases hz with
      | nil =>
        refine ⟨_, rfl, false, .inl ⟨_, SqL.of e1, rfl⟩, iteF ?_⟩
        exact join_tail (acc := []) s1 np e1 .nil (Nat.zero_le _) rfl fun H3 zs' a1 a2 a3 => ⟨_, _, _, zs', rfl, a1, a2, a3⟩
      | @cons z c zs' acc' hzc hz' =>
        have hb : (z :: zs').reverse = zs'.reverse ++ [z] := List.reverse_cons ..
        obtain ⟨tz, rfl, etz⟩ := hzc
        have hne : (!((V.ref tz :: zs').reverse).isEmpty) = true := by rw [hb]; simp
        refine ⟨_, rfl, true, .inl ⟨_, SqL.of e1, hne.symm⟩, iteT ?_⟩
        refine ⟨_, rfl, _, rfl, p, _, _, .ref tz, rfl, rfl, SqL.of e1, by rw [hb]; exact atI_last _ _, tz, _, _, .str c.1, rfl, rfl, SqT.of etz, rfl, _, rfl, rfl, _, rfl, ?_⟩
        have hs : decide (V.str c.1 = V.str pr.1) = decide (c.1 = pr.1) := decide_eq_decide.mpr ⟨fun e => by injection e, fun e => by rw [e]⟩
        rw [hs]
        have hcl : acc'.length ≤ 1000000 := by
          rw [List.length_cons] at hjl
          omega
        by_cases hc : c.1 = pr.1
        · rw [decide_eq_true hc]
          refine iteT ?_
          refine ⟨_, rfl, _, rfl, .inl ⟨rfl, _, SqL.of e1⟩, p, _, .ref tz, rfl, rfl, e1, ?_, ?_⟩
          · rw [hb, List.length_append, List.length_singleton, Nat.add_sub_cancel, List.getElem?_append_right (Nat.le_refl _), Nat.sub_self]
            rfl
          have hd : ((V.ref tz :: zs').reverse).dropLast = zs'.reverse := by rw [hb, List.dropLast_concat]
          rw [hd]
          have ntp : tz ≠ p := fun e => by
            rw [e, e1] at etz
            cases etz
          refine ⟨tz, _, _, .int c.2, rfl, rfl, SqT.of (by rw [upd_ne ntp]; exact etz), rfl, _, _, rfl, rfl, ?_⟩
          refine join_tail (acc := acc') (same_put s1 np) np upd_same (PairsAt.put e1 hz') (by omega) ?_ fun H3 zs'' a1 a2 a3 => ⟨_, _, _, zs'', rfl, a1, a2, a3⟩
          show _ = (if pr.2 = 0 then c :: acc' else if c.1 = pr.1 then (if c.2 + pr.2 = 0 then acc' else (c.1, c.2 + pr.2) :: acc') else pr :: c :: acc')
          have hc2 : c.2 ≠ 0 := hred.head
          have ea : pr.2 + c.2 = c.2 + pr.2 := Int.add_comm _ _
          rw [ea]
          by_cases h0 : pr.2 = 0
          · rw [if_pos h0, h0, Int.add_zero, if_neg hc2, ← hc]
          · rw [if_neg h0, if_pos hc, hc]
        · rw [decide_eq_false hc]
          refine iteF ?_
          refine join_tail (acc := c :: acc') s1 np e1 (.cons ⟨tz, rfl, etz⟩ hz') (by rw [List.length_cons]; omega) ?_ fun H3 zs'' a1 a2 a3 => ⟨_, _, _, zs'', rfl, a1, a2, a3⟩
          show _ = (if pr.2 = 0 then c :: acc' else if c.1 = pr.1 then _ else pr :: c :: acc')
          rw [if_neg hc]
    · rintro σ H1 ⟨t2, t3, t4, zs, rfl, s1, e1, hz⟩
      have et : l.take ys0.length = l := List.take_of_length_le (by omega)
      rw [et] at hz
      refine ⟨_, rfl, p, _, rfl, .inl ⟨SqL.of e1, fun pl npl => ?_⟩⟩
      exact q pl _ _ (free_none s1 npl) (s1.trans (same_upd npl)) upd_same (PairsAt.same (same_upd npl) (each_rev hz))
end
theorem row_word {P : Program} {w : World} {K : PySem.W.Frag} {mg : Str → Option Value} {base : Heap} {CM CW fMI fWI : Addr} {dMI dWI : FuncData} (G : Makes4 P w K mg base CM CW fMI fWI dMI dWI) {H : Hp} {sg : Str} {b : Addr} {l : Row} {B : Nat} {Q : VK} {E : XK} (hsg : Signs sg) (hb : TupRow K H b l)
    (hru : Ru sg B l) (hB : B < 10 ^ 200) (hl : l.length ≤ 200) (q : ∀ x H', Same H H' → WordAt K CW H' x sg (rowOf l) → Q (.ref x) H') :
    ∀ x dx, H x = none → H dx = none → dx ≠ x → spWordInit K CM CW (.ref x :: ([V.str sg, V.ref b] ++ [])) (upd (upd H dx (.own x)) x (.ins CW dx [])) (fun v H3 => v = .non ∧ Q (.ref x) H3) E := by
  intro x dx nx ndx nxx
  have s3 : Same H (upd H dx (.own x)) := same_upd ndx
  have n3 : (upd H dx (.own x)) x = none := by rw [upd_ne nxx.symm]; exact nx
  have s4 : Same (upd H dx (.own x)) (upd (upd H dx (.own x)) x (.ins CW dx [])) := same_upd n3
  have ex : (upd (upd H dx (.own x)) x (.ins CW dx [])) x = some (.ins CW dx []) := upd_same
  have s24 := s3.trans s4
  generalize upd (upd H dx (.own x)) x (.ins CW dx []) = H4 at s24 ex ⊢
  have := rowOf_len l
  refine ⟨x, dx, sg, b, l, rfl, ex, hsg, .inr ⟨hb.same s24, B, hru, hB⟩, by omega, by omega, fun H' p bt e hp => ⟨rfl, q x H' (fun c o ec => ?_) ⟨dx, p, e, hp⟩⟩⟩
  exact bt _ _ (ne_of_none ec nx) (s24 _ _ ec)

theorem ru_joint {sg : Str} : ∀ (l : Row) (B : Nat) (r : Row), Ru sg B r → (∀ p ∈ l, (∃ c ∈ cds sg, p.1 = one c) ∧ p.2.natAbs ≤ 1) → Ru sg (B + l.length) (Wm.joint r l)
  | [], B, r, h, _ => h
  | (x, n) :: l, B, r, h, hl => by
    obtain ⟨⟨c, hc, rfl⟩, hn⟩ := hl (x, n) List.mem_cons_self
    have := ru_joint l (B + 1) (Wm.push (one c, n) r) (h.push hc hn) fun p hp => hl p (List.mem_cons_of_mem _ hp)
    rw [List.length_cons, show B + (l.length + 1) = B + 1 + l.length by omega]
    exact this
theorem Ls_len (z : Str) : (Ls z).length = z.length := (List.length_map ..).trans (cds_len z)
theorem rowZ_ru {sg z : Str} (h : Signs sg) (v : Sgd sg z) (hl : z.length ≤ 100) : Ru sg 100 (rowZ z) := by
  have h1 := ru_joint (sg := sg) ((Ls z).map Cu.sg) 0 [] (fun p hp => by cases hp) fun p hp => by
    obtain ⟨x, hx, rfl⟩ := List.mem_map.mp hp
    obtain ⟨c, hc, rfl⟩ := List.mem_map.mp hx
    refine ⟨⟨lowc c, (v c hc).low h, rfl⟩, ?_⟩
    show (if decide (c < 97) = true then (-1 : Int) else 1).natAbs ≤ 1
    split <;> decide
  rw [List.length_map, Ls_len] at h1
  intro p hp
  have := h1.rev p hp
  exact ⟨this.1, by omega⟩
theorem rowZ_len (z : Str) : (rowZ z).length ≤ z.length := by
  have := rowOf_len ((Ls z).map Cu.sg)
  rw [List.length_map, Ls_len] at this
  exact this
theorem rowOf_red {l : Row} (h : Wm.Red l.reverse) : rowOf l = l := by
  have := Wm.joint_self h
  rw [List.reverse_reverse] at this
  unfold rowOf
  rw [this, List.reverse_reverse]
section
variable {P : Program} {w : World} {K : PySem.W.Frag} {mg : Str → Option Value} {base : Heap}
def spRoS (K : PySem.W.Frag) : Sp := fun vs H Q _ => ∃ sg z : Str, vs = [.str z] ∧ Signs sg ∧ Sgd sg z ∧ z.length ≤ 100 ∧ ∀ p H', Same H H' → TupRow K H' p (rowZ z) → Q (.ref p) H'
theorem scRoS : FnScope ["signs", "sign"] ["signs"] (defScope sOfSigns) := ⟨rfl, rfl, rfl, by decide +kernel, rfl, by decide +kernel, by decide +kernel⟩
theorem ok_ros {f fJ : Addr} {fd fdJ : FuncData} (F : Fun K "runs_of_signs" "runs_of_signs" sOfSigns f fd) (T : Txt K mg) (DJ : Df K mg "joined_runs" sJoin ["pairs"] fJ fdJ) : FnOk P w K mg base CX0 2 f fd ["signs"] (spRoS K) := by
  have G := ok_joinL (P := P) (w := w) (base := base) DJ.F T
  refine F.ok scRoS (fun vs H Q E h => ?_) (fun cdv A outer s H vs Q E hr h => ?_)
  · obtain ⟨sg, z, rfl, _⟩ := h
    rfl
  · obtain ⟨sg, z, rfl, hsg, hz, hl, q⟩ := h
    refine ⟨_, pss_one (ps_ret (pe_call G hr (by rfl) DJ.m DJ.F.kp DJ.b .nil pass0 (pa_cons (pe_lc (own := [("sign", 1)]) (g := gName 1) (tt := tYes) rfl scRoS.nd (pi_str (pv 0))
      (blkOk_by (own := [("sign", 1)]) (N := ["signs", "sign"]) (sc := defScope sOfSigns) (by decide +kernel))
      (fun _ _ _ _ _ => pg_name (i := 1) scRoS.nd rfl (Or.inl rfl)) (fun _ _ _ _ _ => pts_nil)
      (fun _ _ _ _ _ => pe_tup (pa_cons (pe_lower (pv 1)) (pa_cons (pe_ifExp (pt_val (pe_m0 PySem.F.slot_str_islower PySem.F.type_str_islower mt_islower (pv 1))) pe_int (pe_un un_neg pe_int)) pa_nil)))) pa_nil))), ?_⟩
    refine ⟨_, rfl, z, rfl, fun D hD => ?_⟩
    have hcl := cds_len z
    refine lc_text (fun i H3 => Same H H3 ∧ ∃ zs, H3 D = some (.lst zs) ∧ PairsAt H3 zs (((Ls z).map Cu.sg).take i)) ⟨same_upd hD, [], upd_same, .nil⟩ ?_ ?_
    · rintro i c H2 hc ⟨s2, zs, e2, hzs⟩
      have hi := (List.getElem?_eq_some_iff.mp hc).1
      have hv := hz c (List.mem_of_getElem? hc)
      obtain ⟨v1, v2, v3⟩ := hv.range hsg
      obtain ⟨hlo, hil, _⟩ := chk1 c v2 v1 v3
      have hzl : zs.length = i := by
        have : zs.length = (((Ls z).map Cu.sg).take i).length := hzs.length
        rw [this, List.length_take, List.length_map, Ls_len]
        omega
      have ex : ((Ls z).map Cu.sg)[i]? = some (one (lowc c), if decide (c < 97) = true then -1 else 1) := by
        rw [List.getElem?_map]
        show Option.map _ ((List.map dec (cds z))[i]?) = _
        rw [List.getElem?_map, hc]
        rfl
      have fin : ∀ m : Int, m = (if decide (c < 97) = true then -1 else 1) → ∀ pt, H2 pt = none → ∃ acc, (upd H2 pt (.tup [.str (one (lowc c)), .int m])) D = some (.lst acc) ∧ acc.length < sizeLine ∧ (Same H (upd (upd H2 pt (.tup [.str (one (lowc c)), .int m])) D (.lst (acc ++ [.ref pt]))) ∧
          ∃ zs, (upd (upd H2 pt (.tup [.str (one (lowc c)), .int m])) D (.lst (acc ++ [.ref pt]))) D = some (.lst zs) ∧ PairsAt (upd (upd H2 pt (.tup [.str (one (lowc c)), .int m])) D (.lst (acc ++ [.ref pt]))) zs (((Ls z).map Cu.sg).take (i + 1))) := by
        rintro m rfl pt npt
        have e4 := (same_upd (o := .tup [.str (one (lowc c)), .int (if decide (c < 97) = true then -1 else 1)]) npt) _ _ e2
        have nPD : pt ≠ D := (ne_of_none e2 npt).symm
        refine ⟨zs, e4, ?_, same_put (s2.trans (same_upd npt)) hD, zs ++ [.ref pt], upd_same, ?_⟩
        · rw [hzl]
          exact Nat.lt_of_le_of_lt (show i ≤ 100 by omega) (by decide)
        · rw [List.take_add_one, ex]
          exact each_app (PairsAt.put e4 (PairsAt.same (same_upd npt) hzs)) (.cons ⟨pt, rfl, by rw [upd_ne nPD, upd_same]⟩ .nil)
      refine ⟨rfl, iteT (B := False) ?_⟩
      refine ⟨_, rfl, ⟨_, rfl⟩, _, rfl, rfl, by show 1 ≤ 5592405; decide, _, rfl, ⟨_, rfl⟩, _, rfl, rfl, trivial, _, rfl, ?_⟩
      rw [hil, hlo]
      by_cases hc97 : 97 ≤ c
      · rw [decide_eq_true hc97]
        refine iteT ?_
        exact ⟨by show 2 ≤ sizeLine; decide, fun pt npt => fin 1 (by rw [decide_eq_false (by omega)]; rfl) pt npt⟩
      · rw [decide_eq_false hc97]
        refine iteF ⟨_, rfl, ?_⟩
        exact ⟨by show 2 ≤ sizeLine; decide, fun pt npt => fin (-1) (by rw [decide_eq_true (by omega)]; rfl) pt npt⟩
    · rintro H2 ⟨s2, zs, e2, hzs⟩
      rw [List.take_of_length_le (by rw [List.length_map, Ls_len]; omega)] at hzs
      refine ⟨D, _, rfl, ⟨zs, e2, hzs⟩, ?_, fun p H' ys _ s3 e3 h3 => ?_⟩
      · rw [List.length_map, Ls_len]
        exact Nat.le_trans hl (by decide)
      · exact q p H' (s2.trans s3) (.new e3 h3)
def spOf (K : PySem.W.Frag) (CW : Addr) : Sp := fun vs H Q _ => ∃ sg z : Str, vs = [.ref CW, .str sg, .str z] ∧ Signs sg ∧ Sgd sg z ∧ z.length ≤ 100 ∧ ∀ x H', Same H H' → WordAt K CW H' x sg (rowZ z) → Q (.ref x) H'
theorem scOf : FnScope ["cls", "letters", "text"] ["cls", "letters", "text"] (defScope sOf) := ⟨rfl, rfl, rfl, by decide +kernel, rfl, by decide +kernel, by decide +kernel⟩
theorem ok_of {CM CW fMI fWI f fH fL fC fS fCS fJ fR : Addr} {dMI dWI fd fdH fdL fdC fdS fdCS fdJ fdR : FuncData} (F : Fun K "of" "Word.of" sOf f fd) (T : Txt K mg) (G : Makes4 P w K mg base CM CW fMI fWI dMI dWI) (DH : Df K mg "has_only" sHas ["value", "signs", "most"] fH fdH)
    (DL : Df K mg "is_letters" sLetters ["value"] fL fdL) (DC : Df K mg "check_letters" sCheck ["value"] fC fdC) (DS : Df K mg "is_signed" sSigned ["letters", "value"] fS fdS) (DCS : Df K mg "check_signed" sCheckSigned ["letters", "value"] fCS fdCS)
    (DJ : Df K mg "joined_runs" sJoin ["pairs"] fJ fdJ) (DR : Df K mg "runs_of_signs" sOfSigns ["signs"] fR fdR) : FnOk P w K mg base CX0 6 f fd ["cls", "letters", "text"] (spOf K CW) := by
  have GS := ok_csigned (P := P) (w := w) (base := base) DCS.F T DH DL DC DS
  have GR := ok_ros (P := P) (w := w) (base := base) DR.F T DJ
  refine F.ok scOf (fun vs H Q E h => ?_) (fun cdv A outer s H vs Q E hr h => ?_)
  · obtain ⟨sg, z, rfl, _⟩ := h
    rfl
  · obtain ⟨sg, z, rfl, hsg, hz, hl, q⟩ := h
    have r2 : Room 2 _ := hr.mono (by decide)
    refine ⟨_, pss_cons (ps_expr (pe_call GS hr (by rfl) DCS.m DCS.F.kp DCS.b .nil pass0 (pa_cons (pv 1) (pa_cons (pv 2) pa_nil))))
      (pss_one (ps_ret (pe_makeV (i := 0) (pv 0) G.mW G.gWI hr G.bWI .nil pass0 (pa_cons (pv 1) (pa_cons (pe_call GR r2 (by rfl) DR.m DR.F.kp DR.b .nil pass0 (pa_cons (pv 2) pa_nil)) pa_nil))))), ?_⟩
    refine ⟨_, rfl, _, rfl, sg, z, rfl, hsg, hz, hl, fun H1 s1 => ⟨rfl, _, rfl, _, rfl, sg, z, rfl, hsg, hz, hl, fun p H2 s2 h2 => ?_⟩⟩
    refine row_word G hsg h2 (rowZ_ru hsg hz hl) (by decide +kernel) (by have := rowZ_len z; omega) fun x H' s h => ?_
    rw [rowOf_red (rowZ_red z)] at h
    exact q x H' ((s1.trans s2).trans s) h
end
end K4

set_option Elab.async false
set_option linter.all false
set_option maxRecDepth 100000
set_option maxHeartbeats 3200000
namespace K4
open PySem L2 Tx Tg Tm
/-! ### texts of runs -/
theorem cds_app (a b : Str) : cds (a ++ b) = cds a ++ cds b := by
  show (a.cps ++ b.cps).toList = _
  rw [Array.toList_append]
theorem cds_mul1 (d : Nat) {n : Int} (h : 1 ≤ n) : cds (Txt.mul (one d) n) = List.replicate n.toNat d := by
  unfold Txt.mul
  rw [if_neg (by omega)]
  split
  · rename_i q
    rcases Bool.or_eq_true _ _ ▸ q with q | q
    · have : n = 1 := by simpa using q
      subst this
      rfl
    · cases q
  · have all : ∀ (k : Nat) (acc : Array Nat), ((List.replicate k (one d).cps).foldl (· ++ ·) acc).toList = acc.toList ++ List.replicate k d := by
      intro k
      induction k with
      | zero => intro acc; simp
      | succ k ih =>
        intro acc
        rw [List.replicate_succ, List.foldl_cons, ih, List.replicate_succ, Array.toList_append, List.append_assoc]
        rfl
    exact (all n.toNat #[]).trans (List.nil_append _)
theorem cds_join : ∀ l : List Str, cds (Txt.join "" l) = (l.map cds).flatten := by
  intro l
  rw [show Txt.join "" l = Str.join "" l from TL.join_eq _ _]
  have e0 : cds ("" : Str) = [] := by decide +kernel
  induction l with
  | nil => exact e0
  | cons x l ih =>
    cases l with
    | nil =>
      show cds x = cds x ++ []
      rw [List.append_nil]
    | cons y r =>
      show cds (x ++ ("" : Str) ++ Str.join "" (y :: r)) = cds x ++ ((y :: r).map cds).flatten
      rw [cds_app, cds_app, e0, List.append_nil, ih]
/-- the code points of a run -/
def sgn (p : Str × Int) : Str := if p.2 > 0 then Txt.mul p.1 p.2 else Txt.mul (Txt.upper p.1) (-p.2)
/-- runs of letters, exponents at most B and not 0 -/
def Nz (sg : Str) (B : Nat) (l : Row) : Prop := Ru sg B l ∧ ∀ p ∈ l, p.2 ≠ 0
theorem up_one {sg : Str} (h : Signs sg) {d : Nat} (hd : d ∈ cds sg) : Txt.upper (one d) = one (d - 32) ∧ Vc sg d ∧ Vc sg (d - 32) ∧ dec d = (one d, false) ∧ dec (d - 32) = (one d, true) := by
  have r := sg_range h d hd
  have el : lowc d = d := if_neg (by omega)
  have el2 : lowc (d - 32) = d := by
    unfold lowc
    rw [if_pos (by omega)]
    omega
  have c1 := (chk1 d (by omega) (by omega) (by omega)).2.2
  rw [el] at c1
  refine ⟨c1, .inl hd, .inr ⟨by omega, by rw [show d - 32 + 32 = d by omega]; exact hd⟩, ?_, ?_⟩
  · unfold dec
    rw [el, decide_eq_false (by omega)]
  · unfold dec
    rw [el2, decide_eq_true (by omega)]
theorem sgn_cds {sg : Str} (h : Signs sg) {p : Str × Int} (hp : ∃ d ∈ cds sg, p.1 = one d) (hn : p.2 ≠ 0) : (cds (sgn p)).map dec = Cu.ex1 p ∧ (∀ c ∈ cds (sgn p), Vc sg c) ∧ (sgn p).length = p.2.natAbs := by
  obtain ⟨x, n⟩ := p
  obtain ⟨d, hd, rfl⟩ := hp
  obtain ⟨u1, u2, u3, u4, u5⟩ := up_one h hd
  have hn : n ≠ 0 := hn
  unfold sgn
  by_cases hpos : n > 0
  · rw [if_pos hpos]
    have e : cds (Txt.mul (one d) n) = List.replicate n.toNat d := cds_mul1 d (by omega)
    refine ⟨?_, ?_, ?_⟩
    · show List.map dec (cds (Txt.mul (one d) n)) = List.replicate n.natAbs (one d, decide (n < 0))
      rw [e, List.map_replicate, u4, decide_eq_false (by omega), show n.toNat = n.natAbs by omega]
    · show ∀ c ∈ cds (Txt.mul (one d) n), _
      rw [e]
      intro c hc
      rw [(List.mem_replicate.mp hc).2]
      exact u2
    · show (Txt.mul (one d) n).length = n.natAbs
      rw [← cds_len, e, List.length_replicate]
      omega
  · rw [if_neg hpos]
    have e : cds (Txt.mul (Txt.upper (one d)) (-n)) = List.replicate (-n).toNat (d - 32) := by
      rw [u1]
      exact cds_mul1 _ (by omega)
    refine ⟨?_, ?_, ?_⟩
    · show List.map dec (cds (Txt.mul (Txt.upper (one d)) (-n))) = List.replicate n.natAbs (one d, decide (n < 0))
      rw [e, List.map_replicate, u5, decide_eq_true (by omega), show (-n).toNat = n.natAbs by omega]
    · show ∀ c ∈ cds (Txt.mul (Txt.upper (one d)) (-n)), _
      rw [e]
      intro c hc
      rw [(List.mem_replicate.mp hc).2]
      exact u3
    · show (Txt.mul (Txt.upper (one d)) (-n)).length = n.natAbs
      rw [← cds_len, e, List.length_replicate]
      omega
theorem ex1_rev (p : Str × Int) : (Cu.ex1 p).reverse = Cu.ex1 p := List.reverse_replicate ..
theorem ex_app (l k : Row) : Cu.ex (l ++ k) = Cu.ex l ++ Cu.ex k := by
  induction l with
  | nil => rfl
  | cons p l ih =>
    show Cu.ex1 p ++ Cu.ex (l ++ k) = (Cu.ex1 p ++ Cu.ex l) ++ Cu.ex k
    rw [ih, List.append_assoc]
theorem ex_flat : ∀ l : Row, (Cu.ex l.reverse).reverse = (l.map Cu.ex1).flatten
  | [] => rfl
  | p :: l => by
    rw [List.reverse_cons, ex_app, List.reverse_append, ex_flat l]
    show (Cu.ex1 p ++ []).reverse ++ _ = Cu.ex1 p ++ (l.map Cu.ex1).flatten
    rw [List.append_nil, ex1_rev]
/-- the shortest text of a row -/
def shortT (l : Row) : Str := Txt.join "" (l.map sgn)
theorem short_cds {sg : Str} (h : Signs sg) : ∀ {l : Row}, (∀ p ∈ l, (∃ d ∈ cds sg, p.1 = one d) ∧ p.2 ≠ 0) → ((l.map sgn).map cds).flatten.map dec = (l.map Cu.ex1).flatten ∧ (∀ c ∈ ((l.map sgn).map cds).flatten, Vc sg c) ∧ ((l.map sgn).map cds).flatten.length = (l.map fun p => p.2.natAbs).sum
  | [], _ => ⟨rfl, (fun c hc => (by cases hc)), rfl⟩
  | p :: l, hl => by
    obtain ⟨a1, a2, a3⟩ := sgn_cds h (hl p List.mem_cons_self).1 (hl p List.mem_cons_self).2
    obtain ⟨b1, b2, b3⟩ := short_cds h (l := l) fun q hq => hl q (List.mem_cons_of_mem _ hq)
    refine ⟨?_, ?_, ?_⟩
    · show List.map dec (cds (sgn p) ++ ((l.map sgn).map cds).flatten) = Cu.ex1 p ++ (l.map Cu.ex1).flatten
      rw [List.map_append, a1, b1]
    · intro c hc
      rcases List.mem_append.mp (show c ∈ cds (sgn p) ++ ((l.map sgn).map cds).flatten from hc) with hc | hc
      · exact a2 c hc
      · exact b2 c hc
    · show (cds (sgn p) ++ ((l.map sgn).map cds).flatten).length = p.2.natAbs + (l.map fun p => p.2.natAbs).sum
      rw [List.length_append, b3, cds_len, a3]
theorem short_facts {sg : Str} (h : Signs sg) {l : Row} (hl : ∀ p ∈ l, (∃ d ∈ cds sg, p.1 = one d) ∧ p.2 ≠ 0) : Ls (shortT l) = (Cu.ex l.reverse).reverse ∧ Sgd sg (shortT l) ∧ (shortT l).length = (l.map fun p => p.2.natAbs).sum := by
  obtain ⟨a1, a2, a3⟩ := short_cds h hl
  have e := cds_join (l.map sgn)
  refine ⟨?_, ?_, ?_⟩
  · show (cds (shortT l)).map dec = _
    rw [ex_flat, ← a1]
    exact congrArg _ e
  · intro c hc
    have hc : c ∈ cds (Txt.join "" (l.map sgn)) := hc
    rw [e] at hc
    exact a2 c hc
  · rw [← cds_len, ← a3]
    exact congrArg _ e
theorem red_nz : ∀ {l : Row}, Wm.Red l → ∀ p ∈ l, p.2 ≠ 0
  | p :: l, h, q, hq => by
    rcases List.mem_cons.mp hq with rfl | hq
    · exact h.head
    · exact red_nz h.tail q hq
/-- what the word of a text tells -/
theorem rowZ_short {sg z : Str} (h : Signs sg) (v : Sgd sg z) (hl : z.length ≤ 100) : Ls (shortT (rowZ z)) = Cu.nf (Ls z) ∧ Sgd sg (shortT (rowZ z)) ∧ (shortT (rowZ z)).length = ((rowZ z).map fun p => p.2.natAbs).sum := by
  have := short_facts h (l := rowZ z) fun p hp => ⟨(rowZ_ru h v hl p hp).1, red_nz (rowZ_red z) p (List.mem_reverse.mpr hp)⟩
  rw [rowZ_ex] at this
  exact this
end K4

set_option Elab.async false
set_option linter.all false
set_option maxRecDepth 100000
set_option maxHeartbeats 3200000
namespace K4
open PySem L2 Tx Tg Tm
abbrev sLet : Stmt := wdef 2
abbrev sRuns : Stmt := wdef 3
abbrev sSize : Stmt := wdef 4
abbrev sIx : Stmt := wdef 5
abbrev sIter : Stmt := wdef 7
abbrev sStr : Stmt := wdef 9
abbrev sShort : Stmt := wdef 15
abbrev sPlain : Stmt := wdef 16
def absOf (n : Int) : Int := if n < 0 then -n else n
theorem abs_nat (n : Int) : absOf n = (n.natAbs : Int) := by
  unfold absOf
  split <;> omega
def sizeL (l : Row) : Int := (l.map fun p => absOf p.2).sum
theorem mulT_ok {z : Str} {n : Int} (hz : z.length ≤ 100) (h1 : 1 ≤ n) (h2 : n ≤ 100) : MulOk z n := by
  refine ⟨?_, fun _ _ => ?_, fun _ _ => ?_⟩
  · rw [decide_eq_false (by omega), decide_eq_false (by omega)]
    rfl
  · have : (100 : Int) ≤ (2 ^ 63 - 1) / n := Int.le_ediv_of_mul_le (by omega) (by omega)
    omega
  · have e : PySem.Builtin.Str.tooLong (z.length * n.toNat) = decide (z.length * n.toNat > sizeLine) := rfl
    rw [e]
    refine decide_eq_false ?_
    have := Nat.mul_le_mul hz (show n.toNat ≤ 100 by omega)
    rw [sizeLine_eq]
    omega
section
variable {X : Cx}
theorem op_mulT : OpR X (binaryOp .Mult) (fun x y H Q => ∃ (z : Str) (n : Int), x = .str z ∧ y = .int n ∧ z.length ≤ 100 ∧ 1 ≤ n ∧ n ≤ 100 ∧ Q (.str (Txt.mul z n)) H) := by
  intro pins s σ H x y v u Q I rx ry h
  obtain ⟨z, n, rfl, rfl, hz, h1, h2, q⟩ := h
  obtain ⟨t, rfl⟩ := rx
  obtain ⟨t', rfl⟩ := ry
  exact SB.mul (mulT_ok hz h1 h2) fun t2 k => ⟨.str (Txt.mul z n), H, I.tok _, ⟨t2, rfl⟩, q⟩
end
section
variable {P : Program} {w : World} {K : PySem.W.Frag} {mg : Str → Option Value} {base : Heap}
def spLet (K : PySem.W.Frag) (CW : Addr) : Sp := fun vs H Q _ => ∃ (a : Addr) (sg : Str) (l : Row), vs = [.ref a] ∧ WordAt K CW H a sg l ∧ Q (.str sg) H
theorem scLet : FnScope ["self"] ["self"] (defScope sLet) := ⟨rfl, rfl, rfl, by decide +kernel, rfl, by decide +kernel, by decide +kernel⟩
theorem ok_let {CM CW f : Addr} {fd : FuncData} (F : Fun K "letters" "Word.letters" sLet f fd) (W : WF K mg CM CW) : FnOk P w K mg base CX0 1 f fd ["self"] (spLet K CW) := by
  refine F.ok scLet (fun vs H Q E h => ?_) (fun cdv A outer s H vs Q E hr h => ?_)
  · obtain ⟨a, sg, l, rfl, _⟩ := h
    rfl
  · obtain ⟨a, sg, l, rfl, ⟨da, pa, ha, hl⟩, q⟩ := h
    refine ⟨_, pss_one (ps_ret (pe_fld (pv 0) rfl)), ?_⟩
    exact ⟨_, rfl, a, CW, da, _, _, rfl, ha, W.clW, W.nL, rfl, q⟩
def spRuns (K : PySem.W.Frag) (CW : Addr) : Sp := fun vs H Q _ => ∃ (a : Addr) (sg : Str) (l : Row), vs = [.ref a] ∧ WordAt K CW H a sg l ∧ ∀ p, TupRow K H p l → Q (.ref p) H
theorem scRuns : FnScope ["self"] ["self"] (defScope sRuns) := ⟨rfl, rfl, rfl, by decide +kernel, rfl, by decide +kernel, by decide +kernel⟩
theorem ok_runs {CM CW f : Addr} {fd : FuncData} (F : Fun K "runs" "Word.runs" sRuns f fd) (W : WF K mg CM CW) : FnOk P w K mg base CX0 1 f fd ["self"] (spRuns K CW) := by
  refine F.ok scRuns (fun vs H Q E h => ?_) (fun cdv A outer s H vs Q E hr h => ?_)
  · obtain ⟨a, sg, l, rfl, _⟩ := h
    rfl
  · obtain ⟨a, sg, l, rfl, ⟨da, pa, ha, hl⟩, q⟩ := h
    refine ⟨_, pss_one (ps_ret (pe_fld (pv 0) rfl)), ?_⟩
    exact ⟨_, rfl, a, CW, da, _, _, rfl, ha, W.clW, W.nR, rfl, q pa hl⟩
theorem pair_at {H : Hp} {ys : List V} {l : Row} {i : Nat} {x : V} (hp : PairsAt H ys l) (hx : ys[i]? = some x) : ∃ (hi : i < l.length) (t : Addr), x = .ref t ∧ H t = some (.tup [.str l[i].1, .int l[i].2]) := by
  have hi := (List.getElem?_eq_some_iff.mp hx).1
  have hl : ys.length = l.length := hp.length
  have hi' : i < l.length := by omega
  obtain ⟨t, e1, e2⟩ : PairAt H x l[i] := hp.zip (x, l[i]) (List.mem_of_getElem? (i := i) (by rw [List.getElem?_zip_eq_some]; exact ⟨hx, List.getElem?_eq_getElem hi'⟩))
  exact ⟨hi', t, e1, e2⟩
def spSize (K : PySem.W.Frag) (CW : Addr) : Sp := fun vs H Q _ => ∃ (a : Addr) (sg : Str) (l : Row), vs = [.ref a] ∧ WordAt K CW H a sg l ∧ l.length ≤ 200 ∧ ∀ H', Same H H' → Q (.int (sizeL l)) H'
theorem scSize : FnScope ["self", "_", "exponent"] ["self"] (defScope sSize) := ⟨rfl, rfl, rfl, by decide +kernel, rfl, by decide +kernel, by decide +kernel⟩
theorem ok_size {CM CW f : Addr} {fd : FuncData} (F : Fun K "size" "Word.size" sSize f fd) (T : Txt K mg) (W : WF K mg CM CW) : FnOk P w K mg base CX0 1 f fd ["self"] (spSize K CW) := by
  refine F.ok scSize (fun vs H Q E h => ?_) (fun cdv A outer s H vs Q E hr h => ?_)
  · obtain ⟨a, sg, l, rfl, _⟩ := h
    rfl
  · obtain ⟨a, sg, l, rfl, ⟨da, pa, ha, ys, hy, hp⟩, ll, q⟩ := h
    refine ⟨_, pss_one (ps_ret (pe_callB (cr_sum rfl) (by rfl) T.sum (by decide +kernel) (pa_cons (pe_lc (own := [("_", 1), ("exponent", 2)]) (g := gTup K 2 (gCons (gName 1) (gCons (gName 2) gNil))) (tt := tYes) rfl scSize.nd (pi_tup (pe_fld (pv 0) rfl))
      (blkOk_by (own := [("_", 1), ("exponent", 2)]) (N := ["self", "_", "exponent"]) (sc := defScope sSize) (by decide +kernel))
      (fun _ _ _ _ _ => pg_tup rfl (pgs_cons (pg_name (i := 1) scSize.nd rfl (Or.inl rfl)) (pgs_cons (pg_name (i := 2) scSize.nd rfl (Or.inl rfl)) pgs_nil))) (fun _ _ _ _ _ => pts_nil)
      (fun _ _ _ _ _ => pe_callB call_abs (by rfl) T.abs (by decide +kernel) (pa_cons (pv 2) pa_nil))) pa_nil))), ?_⟩
    refine ⟨_, rfl, a, CW, da, _, _, rfl, ha, W.clW, W.nR, rfl, pa, rfl, ⟨_, hy⟩, fun D hD => ?_⟩
    have hlen : ys.length = l.length := hp.length
    have sT : ∀ {H'}, Same H H' → SqT K H' pa ys := fun s => K4.SqT.of_row s hy
    refine lc_tup (xs := ys) (fun i H3 => Same H H3 ∧ H3 D = some (.lst (((l.take i).map fun p => absOf p.2).map V.int))) ⟨same_upd hD, upd_same⟩ (fun i H2 _ z => sT z.1) ?_ ?_
    · rintro i x H2 hx ⟨s2, e2⟩
      obtain ⟨hi', t, rfl, et⟩ := pair_at hp hx
      refine ⟨t, _, rfl, SqT.of (s2 _ _ et), rfl, _, _, rfl, _, _, rfl, rfl, rfl, iteT (B := False) ?_⟩
      refine ⟨_, rfl, _, rfl, _, e2, ?_, same_put s2 hD, ?_⟩
      · rw [List.length_map, List.length_map, List.length_take]
        exact Nat.lt_of_le_of_lt (show _ ≤ 200 by omega) (by decide)
      · rw [upd_same, List.take_add_one, List.getElem?_eq_getElem hi', List.map_append, List.map_append]
        rfl
    · rintro H2 ⟨s2, e2⟩
      rw [List.take_of_length_le (by omega)] at e2
      exact ⟨D, _, rfl, SqL.of e2, q H2 s2⟩
def spSoR (K : PySem.W.Frag) : Sp := fun vs H Q _ => ∃ (a : Addr) (sg : Str) (l : Row), vs = [.ref a] ∧ TupRow K H a l ∧ Signs sg ∧ (∀ p ∈ l, (∃ d ∈ cds sg, p.1 = one d) ∧ p.2 ≠ 0) ∧ (∀ p ∈ l, p.2.natAbs ≤ 100) ∧ l.length ≤ 200 ∧ ∀ H', Same H H' → Q (.str (shortT l)) H'
theorem scSoR : FnScope ["runs", "letter", "exponent"] ["runs"] (defScope sSignsOf) := ⟨rfl, rfl, rfl, by decide +kernel, rfl, by decide +kernel, by decide +kernel⟩
theorem sum_lens : ∀ l : List Str, (∀ z ∈ l, z.length ≤ 100) → (l.map (·.length)).sum ≤ 100 * l.length
  | [], _ => Nat.le_refl 0
  | z :: l, h => by
    have h1 := h z List.mem_cons_self
    have h2 := sum_lens l fun m hm => h m (List.mem_cons_of_mem _ hm)
    rw [List.map_cons, List.sum_cons, List.length_cons]
    omega
theorem ok_sor {f : Addr} {fd : FuncData} (F : Fun K "signs_of_runs" "signs_of_runs" sSignsOf f fd) (T : Txt K mg) : FnOk P w K mg base CX0 1 f fd ["runs"] (spSoR K) := by
  refine F.ok scSoR (fun vs H Q E h => ?_) (fun cdv A outer s H vs Q E hr h => ?_)
  · obtain ⟨a, sg, l, rfl, _⟩ := h
    rfl
  · obtain ⟨a, sg, l, rfl, ⟨ys, hy, hp⟩, hsg, hs, hb, ll, q⟩ := h
    refine ⟨_, pss_one (ps_ret (pe_join pe_str (pe_lc (own := [("letter", 1), ("exponent", 2)]) (g := gTup K 2 (gCons (gName 1) (gCons (gName 2) gNil))) (tt := tYes) rfl scSoR.nd (pi_tup (pv 0))
      (blkOk_by (own := [("letter", 1), ("exponent", 2)]) (N := ["runs", "letter", "exponent"]) (sc := defScope sSignsOf) (by decide +kernel))
      (fun _ _ _ _ _ => pg_tup rfl (pgs_cons (pg_name (i := 1) scSoR.nd rfl (Or.inl rfl)) (pgs_cons (pg_name (i := 2) scSoR.nd rfl (Or.inl rfl)) pgs_nil))) (fun _ _ _ _ _ => pts_nil)
      (fun _ _ _ _ _ => pe_ifExp (pt_cmpR op_gt (pv 2) pe_int (nomark _)) (pe_op op_mulT (pv 1) (pv 2)) (pe_op op_mulT (pe_upper (pv 1)) (pe_un un_neg (pv 2))))))), ?_⟩
    refine ⟨⟨_, rfl⟩, _, rfl, a, rfl, ⟨_, hy⟩, fun D hD => ?_⟩
    have hlen : ys.length = l.length := hp.length
    have sT : ∀ {H'}, Same H H' → SqT K H' a ys := fun s => K4.SqT.of_row s hy
    refine lc_tup (xs := ys) (fun i H3 => Same H H3 ∧ H3 D = some (.lst (((l.take i).map sgn).map V.str))) ⟨same_upd hD, upd_same⟩ (fun i H2 _ z => sT z.1) ?_ ?_
    · rintro i x H2 hx ⟨s2, e2⟩
      obtain ⟨hi', t, rfl, et⟩ := pair_at hp hx
      obtain ⟨⟨d, hd, ed⟩, hn0⟩ := hs l[i] (List.getElem_mem hi')
      have hb1 := hb l[i] (List.getElem_mem hi')
      have step : ∃ acc, H2 D = some (.lst acc) ∧ acc.length < sizeLine ∧ (Same H (upd H2 D (.lst (acc ++ [.str (sgn l[i])]))) ∧ (upd H2 D (.lst (acc ++ [.str (sgn l[i])]))) D = some (.lst (((l.take (i + 1)).map sgn).map V.str))) := by
        refine ⟨_, e2, ?_, same_put s2 hD, ?_⟩
        · rw [List.length_map, List.length_map, List.length_take]
          exact Nat.lt_of_le_of_lt (show _ ≤ 200 by omega) (by decide)
        · rw [upd_same, List.take_add_one, List.getElem?_eq_getElem hi', List.map_append, List.map_append]
          rfl
      have one1 : l[i].1.length = 1 := by rw [ed]; rfl
      have one2 : (Txt.upper l[i].1).length = 1 := by rw [ed, (up_one hsg hd).1]; rfl
      refine ⟨t, _, rfl, SqT.of (s2 _ _ et), rfl, _, _, rfl, _, _, rfl, rfl, rfl, iteT (B := False) ?_⟩
      refine ⟨_, rfl, _, _, rfl, rfl, _, rfl, ?_⟩
      have em : sgn l[i] = if l[i].2 > 0 then Txt.mul l[i].1 l[i].2 else Txt.mul (Txt.upper l[i].1) (-l[i].2) := rfl
      rw [em] at step
      by_cases hpos : l[i].2 > 0
      · rw [decide_eq_true hpos]
        rw [if_pos hpos] at step
        refine iteT ⟨_, rfl, _, rfl, _, _, rfl, rfl, by omega, by omega, by omega, step⟩
      · rw [decide_eq_false hpos]
        rw [if_neg hpos] at step
        refine iteF ⟨_, rfl, ⟨_, rfl⟩, _, rfl, rfl, by omega, _, rfl, _, rfl, _, _, rfl, rfl, by omega, by omega, by omega, step⟩
    · rintro H2 ⟨s2, e2⟩
      rw [List.take_of_length_le (by omega)] at e2
      refine ⟨"", D, _, rfl, rfl, .inl (SqL.of e2), ?_, q H2 s2⟩
      have := sum_lens (l.map sgn) fun z hz => by
        obtain ⟨p, hp', rfl⟩ := List.mem_map.mp hz
        rw [(sgn_cds hsg (hs p hp').1 (hs p hp').2).2.2]
        exact hb p hp'
      rw [List.length_map] at this
      show _ + _ * 0 ≤ _
      omega
def spShort (K : PySem.W.Frag) (CW : Addr) : Sp := fun vs H Q _ => ∃ (a : Addr) (sg : Str) (l : Row), vs = [.ref a] ∧ WordAt K CW H a sg l ∧ Signs sg ∧ (∀ p ∈ l, (∃ d ∈ cds sg, p.1 = one d) ∧ p.2 ≠ 0) ∧ (∀ p ∈ l, p.2.natAbs ≤ 100) ∧ l.length ≤ 100 ∧ sizeL l ≤ 4000 ∧ ∀ H', Same H H' → Q (.str (shortT l)) H'
theorem scShort : FnScope ["self"] ["self"] (defScope sShort) := ⟨rfl, rfl, rfl, by decide +kernel, rfl, by decide +kernel, by decide +kernel⟩
theorem ok_short {CM CW f fM fS fZ pZ : Addr} {fd fdM fdS fdZ : FuncData} (F : Fun K "shortest" "Word.shortest" sShort f fd) (T : Txt K mg) (W : WF K mg CM CW) (DM : Df K mg "check_most" sMost ["many", "limit"] fM fdM) (DS : Df K mg "signs_of_runs" sSignsOf ["runs"] fS fdS)
    (GZ : FnOk P w K mg base CX0 1 fZ fdZ ["self"] (spSize K CW)) (pZ' : PropOf K CW "size" pZ fZ) (bZ : Binds K fdZ ["self"] []) : FnOk P w K mg base CX0 3 f fd ["self"] (spShort K CW) := by
  have GM := ok_most (P := P) (w := w) (base := base) DM.F T
  have GS := ok_sor (P := P) (w := w) (base := base) DS.F T
  refine F.ok scShort (fun vs H Q E h => ?_) (fun cdv A outer s H vs Q E hr h => ?_)
  · obtain ⟨a, sg, l, rfl, _⟩ := h
    rfl
  · obtain ⟨a, sg, l, rfl, ⟨da, pa, ha, hl⟩, hsg, hs, hb, ll, hz, q⟩ := h
    have r1 : Room 1 _ := hr.mono (by decide)
    obtain ⟨t4, g4⟩ := T.mText
    refine ⟨_, pss_cons (ps_expr (pe_call GM r1 (by rfl) DM.m DM.F.kp DM.b .nil pass0 (pa_cons (pe_prop (pv 0) W.clW pZ' GZ hr bZ .nil pass0 rfl) (pa_cons (pe_glob (v := .int 4000) (by rfl) g4 ⟨_, rfl⟩) pa_nil))))
      (pss_one (ps_ret (pe_call GS r1 (by rfl) DS.m DS.F.kp DS.b .nil pass0 (pa_cons (pe_fld (pv 0) rfl) pa_nil)))), ?_⟩
    refine ⟨_, rfl, a, da, _, rfl, ha, a, sg, l, rfl, ⟨da, pa, ha, hl⟩, by omega, fun H1 s1 => ?_⟩
    refine ⟨sizeL l, 4000, rfl, hz, ?_⟩
    refine ⟨_, rfl, a, CW, da, _, _, rfl, s1 _ _ ha, W.clW, W.nR, rfl, pa, sg, l, rfl, hl.same s1, hsg, hs, hb, by omega, fun H2 s2 => q H2 (s1.trans s2)⟩
def spIx (K : PySem.W.Frag) (CW : Addr) : Sp := fun vs H Q _ => ∃ (a : Addr) (sg : Str) (l : Row) (i : Nat) (hi : i < l.length), vs = [.ref a, .int (i : Int)] ∧ WordAt K CW H a sg l ∧ l.length ≤ 200 ∧ ∀ t, H t = some (.tup [.str l[i].1, .int l[i].2]) → Q (.ref t) H
theorem scIx : FnScope ["self", "at"] ["self", "at"] (defScope sIx) := ⟨rfl, rfl, rfl, by decide +kernel, rfl, by decide +kernel, by decide +kernel⟩
theorem ok_ix {CM CW f fI : Addr} {fd fdI : FuncData} (F : Fun K "__getitem__" "Word.__getitem__" sIx f fd) (T : Txt K mg) (W : WF K mg CM CW) (DI : Df K mg "is_integer" sInt ["value"] fI fdI) : FnOk P w K mg base CX0 2 f fd ["self", "at"] (spIx K CW) := by
  have GI := ok_int (P := P) (w := w) (base := base) DI.F T
  refine F.ok scIx (fun vs H Q E h => ?_) (fun cdv A outer s H vs Q E hr h => ?_)
  · obtain ⟨a, sg, l, i, hi, rfl, _⟩ := h
    rfl
  · obtain ⟨a, sg, l, i, hi, rfl, ⟨da, pa, ha, ys, hy, hp⟩, ll, q⟩ := h
    refine ⟨_, pss_cons (ps_if (PW.pt (pw_or (pt_not (pt_val (pe_call GI hr (by rfl) DI.m DI.F.kp DI.b .nil pass0 (pa_cons (pv 1) pa_nil))))
        (pw_or (pt_cmpR op_lt (pv 1) pe_int (nomark _)) (pw_or1 (pt_cmpR op_ge (pv 1) (pe_callB call_len_seq (by rfl) T.len PySem.boot_len (pa_cons (pe_fld (pv 0) rfl) pa_nil)) (nomark _)))))) (pss_one ps_never) pss_nil)
      (pss_one (ps_ret (pe_ix ix_tup (pe_fld (pv 0) rfl) (pv 1) (fun _ _ => rfl)))), ?_⟩
    have hlen : ys.length = l.length := hp.length
    have h200 : isInt (.int (i : Int)) = true := isInt_of (B := 200) (by omega) (by decide +kernel)
    refine ⟨_, rfl, .int (i : Int), .int (i : Int), rfl, .int _, ?_⟩
    rw [h200]
    refine ⟨_, rfl, iteF ?_⟩
    refine ⟨_, rfl, _, _, rfl, rfl, _, rfl, ?_⟩
    rw [decide_eq_false (by omega)]
    refine iteF ?_
    refine ⟨_, rfl, _, rfl, a, CW, da, _, _, rfl, ha, W.clW, W.nR, rfl, pa, ys, rfl, .inr hy, _, _, rfl, rfl, _, rfl, ?_⟩
    rw [decide_eq_false (by omega)]
    refine iteF ?_
    have hx : ys[i]? = some ys[i] := List.getElem?_eq_getElem (by omega)
    obtain ⟨_, t, et, eh⟩ := pair_at hp hx
    refine ⟨_, rfl, a, CW, da, _, _, rfl, ha, W.clW, W.nR, rfl, _, rfl, pa, ys, (i : Int), .ref t, rfl, rfl, hy, atI_nat (by rw [hx, et]), q t eh⟩
def spIter (K : PySem.W.Frag) (CW : Addr) (n : Nat) : Sp := fun vs H Q _ => ∃ (a : Addr) (sg : Str) (l : Row), vs = [.ref a] ∧ WordAt K CW H a sg l ∧ ∀ p it ys, SqT K H p ys → PairsAt H ys l → H it = none → n ≤ it → Q (.ref it) (upd H it (Ow.ItT p it))
theorem scIter : FnScope ["self"] ["self"] (defScope sIter) := ⟨rfl, rfl, rfl, by decide +kernel, rfl, by decide +kernel, by decide +kernel⟩
theorem ok_iter {CM CW f : Addr} {fd : FuncData} (F : Fun K "__iter__" "Word.__iter__" sIter f fd) (hI : mg "iter" = none) (W : WF K mg CM CW) : Ow.FnS P w K mg base 1 f fd ["self"] (spIter K CW) := by
  refine Ow.FnS.fn F scIter (fun n vs H Q E h => ?_) (fun cdv A outer s H vs Q E hr h => ?_)
  · obtain ⟨a, sg, l, rfl, _⟩ := h
    rfl
  · obtain ⟨a, sg, l, rfl, ⟨da, pa, ha, ys, hy, hp⟩, q⟩ := h
    refine ⟨_, pss_one (ps_ret (pe_callB Ow.call_iterT (by rfl) hI (by decide +kernel) (pa_cons (pe_fld (pv 0) rfl) pa_nil))), ?_⟩
    exact ⟨_, rfl, a, CW, da, _, _, rfl, ha, W.clW, W.nR, rfl, pa, ys, rfl, hy, fun it n1 n2 => q pa it ys hy hp n1 n2⟩
def toldS (n : Nat) (sg : Str) : Str := (("word of " : Str) ++ ((toString (n : Int) : String) : Str) ++ (" runs over " : Str)) ++ sg
def spStr (K : PySem.W.Frag) (CW : Addr) : Sp := fun vs H Q _ => ∃ (a : Addr) (sg : Str) (l : Row), vs = [.ref a] ∧ WordAt K CW H a sg l ∧ Signs sg ∧ l.length ≤ 200 ∧ Q (.str (toldS l.length sg)) H
theorem scStr : FnScope ["self"] ["self"] (defScope sStr) := ⟨rfl, rfl, rfl, by decide +kernel, rfl, by decide +kernel, by decide +kernel⟩
theorem small_text : ∀ n < 201, ((toString ((n : Nat) : Int) : String) : Str).length ≤ 10 ∧ ((n : Nat) : Int).natAbs.log2 < 1920 := by decide +kernel
theorem str_len (a b : Str) : (a ++ b).length = a.length + b.length := Array.size_append
theorem empty_app (a : Str) : Str.empty ++ a = a := cds_ext (by rw [cds_app]; rfl)
theorem ok_str {CM CW f : Addr} {fd : FuncData} (F : Fun K "__str__" "Word.__str__" sStr f fd) (T : Txt K mg) (W : WF K mg CM CW) : FnOk P w K mg base CX0 1 f fd ["self"] (spStr K CW) := by
  refine F.ok scStr (fun vs H Q E h => ?_) (fun cdv A outer s H vs Q E hr h => ?_)
  · obtain ⟨a, sg, l, rfl, _⟩ := h
    rfl
  · obtain ⟨a, sg, l, rfl, ⟨da, pa, ha, ys, hy, hp⟩, hsg, ll, q⟩ := h
    refine ⟨_, pss_one (ps_ret (pe_joined (.cons pe_str (.cons (pe_fmt (pe_callB call_len_seq (by rfl) T.len PySem.boot_len (pa_cons (pe_fld (pv 0) rfl) pa_nil))) (.cons pe_str (.cons (pe_fmt (pe_fld (pv 0) rfl)) .nil)))))), ?_⟩
    have hlen : ys.length = l.length := hp.length
    have st := small_text l.length (by omega)
    have sl := (sg_facts hsg).1
    have l1 : ("word of " : Str).length = 8 := by decide +kernel
    have l2 : (" runs over " : Str).length = 11 := by decide +kernel
    have le : (Str.empty : Str).length = 0 := rfl
    refine ⟨_, rfl, ?_, _, rfl, a, CW, da, _, _, rfl, ha, W.clW, W.nR, rfl, pa, ys, rfl, .inr hy, .inr ⟨_, rfl, ?_, _, rfl, ?_, _, rfl, ?_, _, rfl, a, CW, da, _, _, rfl, ha, W.clW, W.nL, rfl, .inl ⟨sg, rfl, ?_, sg, rfl, ?_, ?_⟩⟩⟩
    · rw [str_len, le, l1]
      decide
    · rw [hlen]
      exact st.2
    · rw [hlen, str_len, str_len, le, l1]
      exact Nat.le_trans (show _ ≤ 100 by omega) (by decide)
    · rw [hlen, str_len, str_len, str_len, le, l1, l2]
      exact Nat.le_trans (show _ ≤ 100 by omega) (by decide)
    · exact Nat.le_trans sl (by decide)
    · rw [hlen, str_len, str_len, str_len, str_len, le, l1, l2]
      exact Nat.le_trans (show _ ≤ 100 by omega) (by decide)
    · rw [hlen, empty_app]
      exact q
def spPlain (K : PySem.W.Frag) (CW : Addr) : Sp := fun vs H Q _ => ∃ (a : Addr) (sg : Str) (l : Row), vs = [.ref a] ∧ WordAt K CW H a sg l ∧ l.length ≤ 200 ∧ ∀ H', Same H H' → Q (.bl (l.all fun p => decide (p.2 > 0))) H'
theorem scPlain : FnScope ["self", "_", "exponent"] ["self"] (defScope sPlain) := ⟨rfl, rfl, rfl, by decide +kernel, rfl, by decide +kernel, by decide +kernel⟩
theorem ok_plain {CM CW f : Addr} {fd : FuncData} (F : Fun K "is_plain" "Word.is_plain" sPlain f fd) (T : Txt K mg) (W : WF K mg CM CW) : FnOk P w K mg base CX0 1 f fd ["self"] (spPlain K CW) := by
  refine F.ok scPlain (fun vs H Q E h => ?_) (fun cdv A outer s H vs Q E hr h => ?_)
  · obtain ⟨a, sg, l, rfl, _⟩ := h
    rfl
  · obtain ⟨a, sg, l, rfl, ⟨da, pa, ha, ys, hy, hp⟩, ll, q⟩ := h
    refine ⟨_, pss_one (ps_ret (pe_callB (cr_all rfl) (by rfl) T.all (by decide +kernel) (pa_cons (pe_lc (own := [("_", 1), ("exponent", 2)]) (g := gTup K 2 (gCons (gName 1) (gCons (gName 2) gNil))) (tt := tYes) rfl scPlain.nd (pi_tup (pe_fld (pv 0) rfl))
      (blkOk_by (own := [("_", 1), ("exponent", 2)]) (N := ["self", "_", "exponent"]) (sc := defScope sPlain) (by decide +kernel))
      (fun _ _ _ _ _ => pg_tup rfl (pgs_cons (pg_name (i := 1) scPlain.nd rfl (Or.inl rfl)) (pgs_cons (pg_name (i := 2) scPlain.nd rfl (Or.inl rfl)) pgs_nil))) (fun _ _ _ _ _ => pts_nil)
      (fun _ _ _ _ _ => pe_cmpR op_gt (pv 2) pe_int (nomark _))) pa_nil))), ?_⟩
    refine ⟨_, rfl, a, CW, da, _, _, rfl, ha, W.clW, W.nR, rfl, pa, rfl, ⟨_, hy⟩, fun D hD => ?_⟩
    have hlen : ys.length = l.length := hp.length
    have sT : ∀ {H'}, Same H H' → SqT K H' pa ys := fun s => K4.SqT.of_row s hy
    refine lc_tup (xs := ys) (fun i H3 => Same H H3 ∧ H3 D = some (.lst (((l.take i).map fun p => decide (p.2 > 0)).map V.bl))) ⟨same_upd hD, upd_same⟩ (fun i H2 _ z => sT z.1) ?_ ?_
    · rintro i x H2 hx ⟨s2, e2⟩
      obtain ⟨hi', t, rfl, et⟩ := pair_at hp hx
      refine ⟨t, _, rfl, SqT.of (s2 _ _ et), rfl, _, _, rfl, _, _, rfl, rfl, rfl, iteT (B := False) ?_⟩
      refine ⟨_, rfl, _, _, rfl, rfl, _, e2, ?_, same_put s2 hD, ?_⟩
      · rw [List.length_map, List.length_map, List.length_take]
        exact Nat.lt_of_le_of_lt (show _ ≤ 200 by omega) (by decide)
      · rw [upd_same, List.take_add_one, List.getElem?_eq_getElem hi', List.map_append, List.map_append]
        rfl
    · rintro H2 ⟨s2, e2⟩
      rw [List.take_of_length_le (by omega)] at e2
      refine ⟨D, _, rfl, SqL.of e2, ?_⟩
      rw [List.all_map]
      exact q H2 s2
def spEqX (K : PySem.W.Frag) (CW : Addr) : Sp := fun vs H Q _ => ∃ (a : Addr) (sg : Str) (l : Row) (v : V) (t : Value), vs = [.ref a, v] ∧ WordAt K CW H a sg l ∧ TyX K H v t ∧ PySem.W.kitOne K t (.ref CW) = some false ∧ Q (.bl false) H
theorem ok_eqX {CM CW f : Addr} {fd : FuncData} (F : Fun K "__eq__" "Word.__eq__" sEq f fd) (T : Txt K mg) (W : WF K mg CM CW) : FnOk P w K mg base CX0 1 f fd ["self", "other"] (spEqX K CW) := by
  refine F.ok scEq (fun vs H Q E h => ?_) (fun cdv A outer s H vs Q E hr h => ?_)
  · obtain ⟨a, sg, l, v, t, rfl, _⟩ := h
    rfl
  · obtain ⟨a, sg, l, v, t, rfl, _, ty, hk, q⟩ := h
    refine ⟨_, pss_one (ps_ret (pe_and (pe_callB call_isi (by rfl) T.isi (by decide +kernel) (pa_cons (pv 1) (pa_cons (pe_glob (v := .ref CW) (by rfl) W.gW rfl) pa_nil)))
      (pe_and (pe_cmpR op_eq (pe_fld (pv 0) rfl) (pe_fld (pv 1) rfl) (nomark _)) (pe_one (pe_cmpR (op_eqD hr.units) (pe_fld (pv 0) rfl) (pe_fld (pv 1) rfl) (nomark _)))))), ?_⟩
    exact ⟨_, rfl, _, _, _, _, _, rfl, .own CW, ty, hk, false, rfl, iteF q⟩
end
end K4

set_option Elab.async false
set_option linter.all false
set_option maxRecDepth 100000
set_option maxHeartbeats 3200000
namespace K4
open PySem L2 Tx Tg Tm
/-! ### the law's drawn texts -/
theorem for_text {x : Str} {g : TG} {tb : TS} {D : Ends} {σ : L2.St} {H : Hp} (Pv : Nat → L2.St → Hp → Prop) (h0 : Pv 0 σ H)
    (hs : ∀ i c σ H, (cds x)[i]? = some c → Pv i σ H → g (.str (one c)) σ H fun σ2 H2 => tb { D with nx := Pv (i + 1), ct := Pv (i + 1), bk := D.nx } σ2 H2) (hd : ∀ σ H, Pv (cds x).length σ H → D.nx σ H) :
    ∃ W : Nat → Nat → L2.St → Hp → Prop, (∃ m, W 0 m σ H) ∧ ∀ i m σ H, W i m σ H →
      ((Its x).stop i H ∧ D.nx σ H) ∨ ((Its x).go i H ∧ ∃ N : L2.St → Hp → Prop, (∀ σ' H', N σ' H' → ∃ m', m' < m ∧ W (i + 1) m' σ' H') ∧ ∀ v H', (Its x).yld i H v H' → g v σ H' fun σ2 H2 => tb { D with nx := N, ct := N, bk := D.nx } σ2 H2) := by
  have hz : x.cps.size = (cds x).length := (Array.length_toList).symm
  refine ⟨fun i m σ H => m = (cds x).length - i ∧ i ≤ (cds x).length ∧ Pv i σ H, ⟨(cds x).length, by simp, Nat.zero_le _, h0⟩, ?_⟩
  rintro i m σ H ⟨rfl, hi, p⟩
  by_cases hlt : i < (cds x).length
  · refine .inr ⟨by show i < x.cps.size; omega, Pv (i + 1), fun σ' H' p' => ⟨(cds x).length - (i + 1), by omega, rfl, hlt, p'⟩, ?_⟩
    rintro v H' ⟨e, c, hc, e2⟩
    subst e
    subst e2
    exact hs i c _ _ (by rw [Array.getElem?_toList]; exact hc) p
  · have e : i = (cds x).length := by omega
    subst e
    exact .inl ⟨by show x.cps.size ≤ _; omega, hd _ H p⟩
theorem join_ones : ∀ l : List Nat, cds (Txt.join "" (l.map one)) = l := fun l => by
  rw [cds_join, List.map_map]
  induction l with
  | nil => rfl
  | cons c l ih =>
    show [c] ++ (l.map (cds ∘ one)).flatten = c :: l
    rw [ih]
    rfl
theorem sum_ones (l : List Nat) : ((l.map one).map (·.length)).sum = l.length := by
  rw [List.map_map]
  induction l with
  | nil => rfl
  | cons c l ih =>
    show 1 + (l.map _).sum = l.length + 1
    rw [ih]
    omega
theorem six_nat (n d i : Nat) : HT.sIx n d (some (i : Int)) = min i n := by
  unfold HT.sIx
  simp only
  split <;> omega
theorem cut_to {z : Str} {i : Nat} (h : i ≤ z.length) : cds (cutS z none (some (i : Int))) = (cds z).take i := by
  unfold cutS
  rw [six_nat]
  show (((cds z).drop (HT.sIx z.length 0 none)).take _) = _
  have e0 : HT.sIx z.length 0 none = 0 := rfl
  rw [e0, List.drop_zero, Nat.sub_zero, Nat.min_eq_left h]
theorem cut_from {z : Str} {i : Nat} (h : i ≤ z.length) : cds (cutS z (some (i : Int)) none) = (cds z).drop i := by
  unfold cutS
  rw [six_nat, Nat.min_eq_left h]
  show ((cds z).drop i).take (HT.sIx z.length z.length none - i) = _
  have e0 : HT.sIx z.length z.length none = z.length := rfl
  rw [e0]
  refine List.take_of_length_le ?_
  rw [List.length_drop, cds_len]
  exact Nat.le_refl _
section
variable {P : Program} {w : World} {K : PySem.W.Frag} {mg : Str → Option Value} {base : Heap}
abbrev nMixed : List Str := ["_law_cup_here", "_law_signs_here", "_law_most", "_law_turn"]
def spMixed : Sp := fun vs H Q _ => ∃ (c : Addr) (sg : Str) (m : Nat), vs = [.ref c, .str sg, .int (m : Int)] ∧ Cup H c ∧ Signs sg ∧ m ≤ 20 ∧ ∀ z H', Sgd sg z → z.length ≤ m → Cup H' c → But c H H' → Q (.str z) H'
theorem scMixed : FnScope nMixed ["_law_cup_here", "_law_signs_here", "_law_most"] (defScope sMixed) := ⟨rfl, rfl, rfl, by decide +kernel, rfl, by decide +kernel, by decide +kernel⟩
theorem mem_vc {sg : Str} (h : Signs sg) {c : Nat} (hc : c ∈ cds (sg ++ Txt.upper sg)) : Vc sg c := by
  rw [sg_up h, List.mem_append, List.mem_map] at hc
  rcases hc with hc | ⟨d, hd, rfl⟩
  · exact .inl hc
  · have := sg_range h d hd
    exact .inr ⟨by omega, by rw [show d - 32 + 32 = d by omega]; exact hd⟩
theorem ok_mixed {f fB fP : Addr} {fd fdB fdP : FuncData} (F : Fun K "_law_mixed" "_law_mixed" sMixed f fd) (T : Txt K mg) (DB : Df K mg "_law_bit" sBit ["_law_cup_here", "_law_much"] fB fdB) (DP : Df K mg "_law_pick" sPick ["_law_cup_here", "_law_items"] fP fdP) :
    FnOk P w K mg base CX0 3 f fd ["_law_cup_here", "_law_signs_here", "_law_most"] spMixed := by
  have GB := ok_bit (P := P) (w := w) (base := base) DB.F T
  have GP := ok_pick (P := P) (w := w) (base := base) DP.F T DB
  refine F.ok scMixed (fun vs H Q E h => ?_) (fun cdv A outer s H vs Q E hr h => ?_)
  · obtain ⟨c, sg, m, rfl, _⟩ := h
    rfl
  · obtain ⟨c, sg, m, rfl, hc, hsg, hm, q⟩ := h
    have r1 : Room 1 _ := hr.mono (by decide)
    refine ⟨_, pss_one (ps_ret (pe_join pe_str (pe_lc (own := [("_law_turn", 3)]) (g := gName 3) (tt := tYes) rfl scMixed.nd
      (pi_range1 rfl T.range (pa_cons (pe_call GB r1 (by rfl) DB.m DB.F.kp DB.b .nil pass0 (pa_cons (pv 0) (pa_cons (pe_op op_add (pv 2) pe_int) pa_nil))) pa_nil))
      (blkOk_by (own := [("_law_turn", 3)]) (N := nMixed) (sc := defScope sMixed) (by decide +kernel))
      (fun _ _ _ _ _ => pg_name (i := 3) scMixed.nd rfl (Or.inl rfl)) (fun _ _ _ _ _ => pts_nil)
      (fun _ _ _ _ _ => pe_call GP hr (by rfl) DP.m DP.F.kp DP.b .nil pass0 (pa_cons (pv 0) (pa_cons (pe_op op_add_str (pv 1) (pe_upper (pv 1))) pa_nil)))))), ?_⟩
    obtain ⟨l1, l2, l3⟩ := sg_facts hsg
    have l0 : 0 < sg.length := by rcases hsg with rfl | rfl | rfl | rfl <;> decide +kernel
    refine ⟨⟨_, rfl⟩, _, rfl, _, rfl, _, _, rfl, rfl, c, (m : Int) + 1, rfl, hc, by omega, sm (by omega) (by omega), fun r H1 r0 rm hc1 b1 => ?_⟩
    obtain ⟨k, rfl⟩ : ∃ k : Nat, r = (k : Int) := ⟨r.toNat, by omega⟩
    refine ⟨_, rfl, by omega, by omega, fun D hD => ?_⟩
    have nDc : D ≠ c := hc1.ne hD
    rw [Int.toNat_natCast]
    refine lc_range (lo := 0) (n := k) (fun i H2 => Cup H2 c ∧ But c H1 H2 ∧ ∃ cs : List Nat, H2 D = some (.lst ((cs.map one).map V.str)) ∧ cs.length = i ∧ ∀ d ∈ cs, Vc sg d)
      ⟨hc1.same (same_upd hD), But.of (same_upd hD), [], upd_same, rfl, fun d hd => by cases hd⟩ ?_ ?_
    · rintro i H2 hi ⟨hc2, b2, cs, e2, hl, hv⟩
      refine ⟨rfl, iteT (B := False) ?_⟩
      refine ⟨_, rfl, _, rfl, _, rfl, ⟨_, rfl⟩, _, rfl, rfl, l2, sg, Txt.upper sg, rfl, rfl, Nat.le_trans (show sg.length + (Txt.upper sg).length ≤ 6 by omega) (by decide), ?_⟩
      have hu : (sg ++ Txt.upper sg).length = sg.length + (Txt.upper sg).length := str_len _ _
      refine ⟨c, hc2, .inr ⟨_, rfl, by omega, by omega, fun d H3 hd hc3 b3 => ?_⟩⟩
      have e3 := b3 _ _ nDc e2
      refine ⟨_, e3, ?_, ?_, ?_, cs ++ [d], ?_, by rw [List.length_append, hl]; rfl, ?_⟩
      · rw [List.length_map, List.length_map, hl]
        exact Nat.lt_of_lt_of_le (show i < 30 by omega) (by decide)
      · obtain ⟨c0, c1, c2, ec⟩ := hc3
        exact ⟨c0, c1, c2, by rw [upd_ne nDc.symm]; exact ec⟩
      · intro b o n' e
        rw [upd_ne (ne_of_none e hD)]
        exact b3 _ _ n' (b2 _ _ n' e)
      · rw [upd_same, List.map_append, List.map_append]
        rfl
      · intro x hx
        rcases List.mem_append.mp hx with hx | hx
        · exact hv x hx
        · rw [List.mem_singleton.mp hx]
          exact mem_vc hsg hd
    · rintro H2 ⟨hc2, b2, cs, e2, hl, hv⟩
      refine ⟨"", D, _, rfl, rfl, .inl (SqL.of e2), ?_, ?_⟩
      · rw [sum_ones]
        show _ + _ * 0 ≤ _
        exact Nat.le_trans (show _ ≤ 30 by omega) (by decide)
      · refine q _ H2 (fun d hd => ?_) ?_ hc2 (b1.trans b2)
        · rw [join_ones] at hd
          exact hv d hd
        · rw [← cds_len, join_ones]
          omega
theorem scRowOf : FnScope ["_law_line", "_law_row_here", "_law_sign"] ["_law_line"] (defScope sRowOf) := ⟨rfl, rfl, rfl, by decide +kernel, rfl, by decide +kernel, by decide +kernel⟩
def spRowOf (K : PySem.W.Frag) : Sp := fun vs H Q _ => ∃ sg z : Str, vs = [.str z] ∧ Signs sg ∧ Sgd sg z ∧ z.length ≤ 100 ∧ ∀ p H', Same H H' → TupRow K H' p (rowZ z) → Q (.ref p) H'
theorem ok_rowof {f fU : Addr} {fd fdU : FuncData} (F : Fun K "_law_row_of" "_law_row_of" sRowOf f fd) (T : Txt K mg) (DU : Df K mg "_law_put_row" sPut ["_law_row_here", "_law_sign", "_law_much"] fU fdU) : FnOk P w K mg base CX0 2 f fd ["_law_line"] (spRowOf K) := by
  have GU := ok_put (P := P) (w := w) (base := base) DU.F T
  refine F.ok scRowOf (fun vs H Q E h => ?_) (fun cdv A outer s H vs Q E hr h => ?_)
  · obtain ⟨sg, z, rfl, _⟩ := h
    rfl
  · obtain ⟨sg, z, rfl, hsg, hz, hl, q⟩ := h
    refine ⟨_, pss_cons (ps_set (i := 1) scRowOf.nd rfl (Or.inl rfl) (pe_tup pa_nil))
      (pss_cons (ps_for PassesOwn.never rfl (pi_str (pv 0)) (pg_name (i := 2) scRowOf.nd rfl (Or.inl rfl))
        (pss_one (ps_set (i := 1) scRowOf.nd rfl (Or.inl rfl) (pe_call GU hr (by rfl) DU.m DU.F.kp DU.b .nil pass0 (pa_cons (pv 1) (pa_cons (pe_lower (pv 2)) (pa_cons (pe_ifExp (pt_cmpR op_eq (pv 2) (pe_lower (pv 2)) (nomark _)) pe_int (pe_un un_neg pe_int)) pa_nil)))))))
      (pss_one (ps_ret (pv 1)))), ?_⟩
    refine ⟨by decide, fun pe npe => ?_⟩
    have s0 := same_upd (o := .tup []) npe
    have he : TupRow K (upd H pe (.tup [])) pe [] := .new upd_same .nil
    generalize upd H pe (.tup []) = H0 at s0 he ⊢
    refine ⟨_, rfl, z, rfl, ?_⟩
    refine for_text (fun i σ H1 => ∃ (p : Addr) (u2 : Option V), σ = [some (.str z), some (.ref p), u2] ∧ Same H H1 ∧ TupRow K H1 p (jointL [] (((Ls z).map Cu.sg).take i))) ⟨pe, none, rfl, s0, he⟩ ?_ ?_
    · rintro i c σ H1 hc ⟨p, u2, rfl, s1, hp⟩
      have hi := (List.getElem?_eq_some_iff.mp hc).1
      rw [cds_len] at hi
      have hv := hz c (List.mem_of_getElem? hc)
      obtain ⟨v1, v2, v3⟩ := hv.range hsg
      obtain ⟨hlo, hil, _⟩ := chk1 c v2 v1 v3
      have ex : ((Ls z).map Cu.sg)[i]? = some (one (lowc c), if decide (c < 97) = true then -1 else 1) := by
        rw [List.getElem?_map]
        show Option.map _ ((List.map dec (cds z))[i]?) = _
        rw [List.getElem?_map, hc]
        rfl
      have hlen : (jointL [] (((Ls z).map Cu.sg).take i)).length ≤ 100 := by
        have := jointL_len [] (((Ls z).map Cu.sg).take i)
        rw [List.length_take] at this
        have : ([] : Row).length = 0 := rfl
        omega
      have hpl : Pl (jointL [] (((Ls z).map Cu.sg).take i)) := pl_rev (pl_joint (fun p hp => by cases hp) fun p hp => by
        obtain ⟨x, hx, rfl⟩ := List.mem_map.mp (List.mem_of_mem_take hp)
        obtain ⟨d, hd, rfl⟩ := List.mem_map.mp hx
        have hd2 := (hz d hd).low hsg
        have := sg_range hsg _ hd2
        intro e he
        rw [List.mem_singleton.mp (show e ∈ [lowc d] from he)]
        omega)
      have fin : ∀ m : Int, m = (if decide (c < 97) = true then -1 else 1) → ∀ p' H', Same H1 H' → TupRow K H' p' (putL (jointL [] (((Ls z).map Cu.sg).take i)) (one (lowc c), m)) → ∃ (p : Addr) (u2 : Option V), [some (.str z), some (.ref p'), some (.str (one c))] = [some (.str z), some (.ref p), u2] ∧ Same H H' ∧ TupRow K H' p (jointL [] (((Ls z).map Cu.sg).take (i + 1))) := by
        rintro m rfl p' H' s' h'
        refine ⟨p', _, rfl, s1.trans s', ?_⟩
        rw [jointL_take ex]
        exact h'
      refine ⟨_, rfl, _, rfl, ⟨_, rfl⟩, _, rfl, rfl, by show 1 ≤ 5592405; decide, _, rfl, _, rfl, ⟨_, rfl⟩, _, rfl, rfl, by show 1 ≤ 5592405; decide, rfl, _, rfl, ?_⟩
      rw [hlo]
      by_cases hc97 : c < 97
      · have hne : ¬ (V.str (one c) = V.str (one (lowc c))) := fun e => by
          have e1 : one c = one (lowc c) := by injection e
          have := one_inj e1
          unfold lowc at this
          rw [if_pos hc97] at this
          omega
        rw [decide_eq_false hne]
        refine iteF ⟨_, rfl, p, _, _, _, rfl, hp, by omega, hpl, fun p' H' s' h' => ?_⟩
        exact fin (-1) (by rw [decide_eq_true hc97]; rfl) p' H' s' h'
      · have hne : V.str (one c) = V.str (one (lowc c)) := by
          unfold lowc
          rw [if_neg hc97]
        rw [decide_eq_true hne]
        refine iteT ⟨p, _, _, _, rfl, hp, by omega, hpl, fun p' H' s' h' => ?_⟩
        exact fin 1 (by rw [decide_eq_false hc97]; rfl) p' H' s' h'
    · rintro σ H1 ⟨p, u2, rfl, s1, hp⟩
      rw [List.take_of_length_le (by rw [List.length_map, Ls_len, cds_len]; exact Nat.le_refl _)] at hp
      exact ⟨_, rfl, q p H1 s1 hp⟩
end
end K4

set_option Elab.async false
set_option linter.all false
set_option maxRecDepth 100000
set_option maxHeartbeats 3200000
namespace K4
open PySem L2 Tx Tg Tm
/-! ### numbers as data -/
abbrev nats (l : List Nat) : List V := l.map fun (p : Nat) => V.int (p : Int)
abbrev natsD (l : List Nat) : List PyData := l.map fun (p : Nat) => PyData.int (p : Int)
theorem nats_all (K : PySem.W.Frag) (H : Hp) : ∀ l : List Nat, DpAll K H (nats l) (natsD l)
  | [] => .nil
  | p :: l => .cons (.int _) (nats_all K H l)
theorem lay_nats : ∀ l : List Nat, PyData.canLayAll0 (natsD l) = true
  | [] => rfl
  | p :: l => by
    show (true && PyData.canLayAll0 (natsD l)) = true
    rw [lay_nats l]
    rfl
theorem deep_nats : ∀ l : List Nat, PyData.depthAll (natsD l) = 0
  | [] => rfl
  | p :: l => by
    show max 0 (PyData.depthAll (natsD l)) = 0
    rw [deep_nats l]
    rfl
theorem shaped_lst (l : List Nat) : SeqAt.shaped (.list (natsD l)) = true := by
  unfold SeqAt.shaped
  rw [Bool.and_eq_true]
  exact ⟨lay_nats l, decide_eq_true (by show PyData.depthAll (natsD l) + 1 ≤ 64; rw [deep_nats]; decide)⟩
theorem eqv_none : ∀ l : List Nat, PyData.eqv (.list (natsD l)) (.list (natsD [])) = decide (l = [])
  | [] => rfl
  | _ :: _ => rfl
/-! ### places at which neighbours undo one another -/
def bad (cs : List Nat) (i : Nat) : Bool := match cs[i]?, cs[i + 1]? with
  | some c, some d => decide (c ≠ d) && decide (lowc c = lowc d)
  | _, _ => false
def spots (cs : List Nat) : List Nat := (List.range (cs.length - 1)).filter (bad cs)
theorem bad_is {cs : List Nat} {i : Nat} (h : i + 1 < cs.length) : bad cs i = (decide (cs[i] ≠ cs[i + 1]) && decide (lowc cs[i] = lowc cs[i + 1])) := by
  unfold bad
  rw [List.getElem?_eq_getElem (by omega), List.getElem?_eq_getElem h]
def tLow (to : TE) : TE := tM0 (fun x xs H Q => ∃ a, x = .str a ∧ xs = [] ∧ a.length ≤ 5592405 ∧ Q (.str (Txt.lower a)) H) to
def tA1 : TE := tOp rIxS (tVar 1) (tVar 2)
def tA2 : TE := tOp rIxS (tVar 1) (tOp (rI0 fun i j => V.int (i + j)) (tVar 2) (tC (.int 1)))
def ttSp : TT := tAnd (tTest (tOp rNe tA1 tA2)) (tTest (tOp rEq (tLow tA1) (tLow tA2)))
theorem ev_spots {wi : TI} {c : Addr} {sg z : Str} {u2 u3 : Option V} {H : Hp} {Q : VK} (hsg : Signs sg) (hz : Sgd sg z) (hl : z.length ≤ 100) (hw : ∀ R : It → Hp → Prop, R (Itr 0 ((cds z).length - 1)) H → wi [some (.ref c), some (.str z), u2, u3] H R)
    (q : ∀ D H', H D = none → Same H H' → H' D = some (.lst (nats (spots (cds z)))) → Q (.ref D) H') : tLc wi (gName 2) ttSp (tVar 2) [2] [some (.ref c), some (.str z), u2, u3] H Q := by
  refine hw _ fun D hD => ?_
  have hcl := cds_len z
  have hline : z.length ≤ sizeLine := Nat.le_trans hl (by decide)
  refine lc_range (lo := 0) (n := (cds z).length - 1) (fun i H2 => Same H H2 ∧ H2 D = some (.lst (nats ((List.range i).filter (bad (cds z)))))) ⟨same_upd hD, upd_same⟩ ?_ ?_
  · rintro i H2 hi ⟨s2, e2⟩
    have h1 : i < (cds z).length := by omega
    have h2 : i + 1 < (cds z).length := by omega
    have a1 : atI z.cps.toList (i : Int) = some (cds z)[i] := atI_nat (List.getElem?_eq_getElem h1)
    have a2 : atI z.cps.toList ((i : Int) + 1) = some (cds z)[i + 1] := by
      rw [show (i : Int) + 1 = ((i + 1 : Nat) : Int) by omega]
      exact atI_nat (List.getElem?_eq_getElem h2)
    have r1 := (hz _ (List.getElem_mem h1)).range hsg
    have r2 := (hz _ (List.getElem_mem h2)).range hsg
    have lo1 := (chk1 _ r1.2.1 r1.1 r1.2.2).1
    have lo2 := (chk1 _ r2.2.1 r2.1 r2.2.2).1
    have lf : (List.filter (bad (cds z)) (List.range i)).length ≤ i := by
      have := List.length_filter_le (bad (cds z)) (List.range i)
      rw [List.length_range] at this
      exact this
    rw [Int.zero_add]
    refine ⟨rfl, ?_⟩
    refine ⟨_, rfl, _, rfl, z, (i : Int), _, rfl, rfl, hline, a1, _, rfl, _, rfl, _, _, rfl, rfl, z, (i : Int) + 1, _, rfl, rfl, hline, a2, rfl, _, rfl, ?_⟩
    have hb := bad_is h2
    have hr : List.filter (bad (cds z)) (List.range (i + 1)) = List.filter (bad (cds z)) (List.range i) ++ (if bad (cds z) i = true then [i] else []) := by
      rw [List.range_succ, List.filter_append]
      congr 1
      cases hh : bad (cds z) i <;> simp [List.filter, hh]
    have d1 : decide (V.str (⟨#[(cds z)[i]]⟩ : Str) = V.str ⟨#[(cds z)[i + 1]]⟩) = decide ((cds z)[i] = (cds z)[i + 1]) := decide_eq_decide.mpr ⟨fun e => one_inj (by injection e), fun e => congrArg (fun x => V.str (one x)) e⟩
    rw [d1]
    by_cases e1 : (cds z)[i] = (cds z)[i + 1]
    · rw [decide_eq_true e1]
      have hbf : bad (cds z) i = false := by
        rw [hb, decide_eq_false (fun n => n e1)]
        rfl
      refine iteF (iteF ⟨s2, ?_⟩)
      rw [hr, hbf]
      show _ = some (HO.lst (nats (_ ++ [])))
      rw [List.append_nil]
      exact e2
    · rw [decide_eq_false e1]
      refine iteT ?_
      refine ⟨_, rfl, _, rfl, z, (i : Int), _, rfl, rfl, hline, a1, ⟨_, rfl⟩, _, rfl, rfl, by show 1 ≤ 5592405; decide, _, rfl, _, rfl, _, _, rfl, rfl, z, (i : Int) + 1, _, rfl, rfl, hline, a2, ⟨_, rfl⟩, _, rfl, rfl, by show 1 ≤ 5592405; decide, ?_⟩
      have l1 : Txt.lower (⟨#[(cds z)[i]]⟩ : Str) = one (lowc (cds z)[i]) := lo1
      have l2 : Txt.lower (⟨#[(cds z)[i + 1]]⟩ : Str) = one (lowc (cds z)[i + 1]) := lo2
      rw [l1, l2]
      refine ⟨rfl, _, rfl, ?_⟩
      have d2 : decide (V.str (one (lowc (cds z)[i])) = V.str (one (lowc (cds z)[i + 1]))) = decide (lowc (cds z)[i] = lowc (cds z)[i + 1]) := decide_eq_decide.mpr ⟨fun e => one_inj (by injection e), fun e => congrArg (fun x => V.str (one x)) e⟩
      rw [d2]
      by_cases e3 : lowc (cds z)[i] = lowc (cds z)[i + 1]
      · rw [decide_eq_true e3]
        have hbt : bad (cds z) i = true := by
          rw [hb, decide_eq_true e1, decide_eq_true e3]
          rfl
        refine iteT ⟨_, rfl, _, e2, ?_, same_put s2 hD, ?_⟩
        · rw [List.length_map]
          exact Nat.lt_of_le_of_lt (show _ ≤ 100 by omega) (by decide)
        · rw [upd_same, hr, hbt]
          show _ = some (HO.lst (List.map _ (_ ++ [i])))
          rw [List.map_append]
          rfl
      · rw [decide_eq_false e3]
        have hbf : bad (cds z) i = false := by
          rw [hb, decide_eq_false e3, Bool.and_false]
        refine iteF ⟨s2, ?_⟩
        rw [hr, hbf]
        show _ = some (HO.lst (nats (_ ++ [])))
        rw [List.append_nil]
        exact e2
  · rintro H2 ⟨s2, e2⟩
    exact q D H2 hD s2 e2
theorem asg_spots {wi : TI} {c : Addr} {sg z : Str} {u2 u3 : Option V} {H : Hp} {E : Ends} (hsg : Signs sg) (hz : Sgd sg z) (hl : z.length ≤ 100) (hw : ∀ R : It → Hp → Prop, R (Itr 0 ((cds z).length - 1)) H → wi [some (.ref c), some (.str z), u2, u3] H R)
    (q : ∀ D H', H D = none → Same H H' → H' D = some (.lst (nats (spots (cds z)))) → E.nx [some (.ref c), some (.str z), u2, some (.ref D)] H') : tAsg (tLc wi (gName 2) ttSp (tVar 2) [2]) (gName 3) E [some (.ref c), some (.str z), u2, u3] H :=
  ev_spots hsg hz hl hw q
theorem seq_spots {wi : TI} {c : Addr} {sg z : Str} {u2 u3 : Option V} {H : Hp} {E : Ends} {us : TS} (hsg : Signs sg) (hz : Sgd sg z) (hl : z.length ≤ 100) (hw : ∀ R : It → Hp → Prop, R (Itr 0 ((cds z).length - 1)) H → wi [some (.ref c), some (.str z), u2, u3] H R)
    (q : ∀ D H', H D = none → Same H H' → H' D = some (.lst (nats (spots (cds z)))) → us E [some (.ref c), some (.str z), u2, some (.ref D)] H') : tSeq (tAsg (tLc wi (gName 2) ttSp (tVar 2) [2]) (gName 3)) us E [some (.ref c), some (.str z), u2, u3] H :=
  asg_spots (E := { E with nx := us E }) hsg hz hl hw q
theorem spots_mem {cs : List Nat} {i : Nat} (h : i ∈ spots cs) : ∃ h2 : i + 1 < cs.length, cs[i] ≠ cs[i + 1] ∧ lowc cs[i] = lowc cs[i + 1] := by
  obtain ⟨h1, h2⟩ := List.mem_filter.mp h
  have h3 : i + 1 < cs.length := by
    have := List.mem_range.mp h1
    omega
  rw [bad_is h3, Bool.and_eq_true] at h2
  exact ⟨h3, of_decide_eq_true h2.1, of_decide_eq_true h2.2⟩
theorem spots_nil {sg : Str} (hsg : Signs sg) {z : Str} (hz : Sgd sg z) (h : spots (cds z) = []) : Cu.nf (Ls z) = Ls z := by
  refine Cu.nf_plain fun i hi e => ?_
  have hi2 : i + 1 < (cds z).length := by
    have : (Ls z).length = (cds z).length := List.length_map ..
    omega
  have h1 : (Ls z)[i] = dec (cds z)[i] := List.getElem_map ..
  have h2 : (Ls z)[i + 1] = dec (cds z)[i + 1] := List.getElem_map ..
  rw [h1, h2] at e
  obtain ⟨a, b⟩ := (opp_iff hsg (hz _ (List.getElem_mem (by omega))) (hz _ (List.getElem_mem hi2))).mp e
  have : i ∈ spots (cds z) := List.mem_filter.mpr ⟨List.mem_range.mpr (by omega), by rw [bad_is hi2, decide_eq_true a, decide_eq_true b]; rfl⟩
  rw [h] at this
  cases this
theorem split_at {cs : List Nat} {i : Nat} (h : i + 1 < cs.length) : cs = cs.take i ++ cs[i] :: cs[i + 1] :: cs.drop (i + 2) := by
  have h1 : cs.drop i = cs[i] :: cs.drop (i + 1) := List.drop_eq_getElem_cons (by omega)
  have h2 : cs.drop (i + 1) = cs[i + 1] :: cs.drop (i + 2) := List.drop_eq_getElem_cons h
  rw [h2] at h1
  rw [← h1, List.take_append_drop]
theorem cut_nf {sg : Str} (hsg : Signs sg) {z y : Str} (hz : Sgd sg z) {i : Nat} (h : i ∈ spots (cds z)) (hy : cds y = (cds z).take i ++ (cds z).drop (i + 2)) : Cu.nf (Ls y) = Cu.nf (Ls z) ∧ Sgd sg y := by
  obtain ⟨h2, h3, h4⟩ := spots_mem h
  have eo := (opp_iff hsg (hz _ (List.getElem_mem (by omega))) (hz _ (List.getElem_mem h2))).mpr ⟨h3, h4⟩
  refine ⟨?_, fun c hc => ?_⟩
  · have ez : Ls z = ((cds z).take i).map dec ++ dec (cds z)[i] :: Cu.opp (dec (cds z)[i]) :: ((cds z).drop (i + 2)).map dec := by
      show (cds z).map dec = _
      conv => lhs; rw [split_at h2]
      rw [List.map_append, List.map_cons, List.map_cons, eo]
    have ey : Ls y = ((cds z).take i).map dec ++ ((cds z).drop (i + 2)).map dec := by
      show (cds y).map dec = _
      rw [hy, List.map_append]
    rw [ez, ey, Cu.nf_cut]
  · rw [hy] at hc
    rcases List.mem_append.mp hc with hc | hc
    · exact hz c (List.mem_of_mem_take hc)
    · exact hz c (List.mem_of_mem_drop hc)
section
variable {P : Program} {w : World} {K : PySem.W.Frag} {mg : Str → Option Value} {base : Heap}
abbrev nClr : List Str := ["_law_cup_here", "_law_line", "_law_at", "_law_spots"]
def spClr : Sp := fun vs H Q _ => ∃ (c : Addr) (sg z : Str), vs = [.ref c, .str z] ∧ Cup H c ∧ Signs sg ∧ Sgd sg z ∧ z.length ≤ 50 ∧ ∀ y H', Sgd sg y → Ls y = Cu.nf (Ls z) → Cup H' c → But c H H' → Q (.str y) H'
theorem scClr : FnScope nClr ["_law_cup_here", "_law_line"] (defScope sCleared) := ⟨rfl, rfl, rfl, by decide +kernel, rfl, by decide +kernel, by decide +kernel⟩
theorem ok_clr {f fP fB : Addr} {fd dP dB : FuncData} (F : Fun K "_law_cleared" "_law_cleared" sCleared f fd) (T : Txt K mg) (DP : Df K mg "_law_pick" sPick ["_law_cup_here", "_law_items"] fP dP) (DB : Df K mg "_law_bit" sBit ["_law_cup_here", "_law_much"] fB dB) :
    FnOk P w K mg base CX0 3 f fd ["_law_cup_here", "_law_line"] spClr := by
  have GP := ok_pick (P := P) (w := w) (base := base) DP.F T DB
  refine F.ok scClr (fun vs H Q E h => ?_) (fun cdv A outer s H vs Q E hr h => ?_)
  · obtain ⟨c, sg, z, rfl, _⟩ := h
    rfl
  · obtain ⟨c, sg, z, rfl, hc, hsg, hz, hl, q⟩ := h
    refine ⟨_, pss_cons (ps_setLc (i := 3) (own := [("_law_at", 2)]) (g := gName 2) (tt := ttSp) rfl scClr.nd rfl rfl (by rfl) (pi_range1 rfl T.range (pa_cons (pe_op op_sub (pe_callB call_len_str (by rfl) T.len PySem.boot_len (pa_cons (pv 1) pa_nil)) pe_int) pa_nil))
          (blkOk_by (own := [("_law_at", 2)]) (N := nClr) (sc := defScope sCleared) (by decide +kernel)) (fun _ _ _ _ _ => pg_name (i := 2) scClr.nd rfl (Or.inl rfl))
          (fun _ _ _ _ _ => pts_one (PW.pt (pw_and (pt_cmpR op_ne (pe_ix ix_str (pv 1) (pv 2) (fun _ _ => rfl)) (pe_ix ix_str (pv 1) (pe_op op_add (pv 2) pe_int) (fun _ _ => rfl)) (nomark _))
            (pw_and1 (pt_cmpR op_eq (pe_lower (pe_ix ix_str (pv 1) (pv 2) (fun _ _ => rfl))) (pe_lower (pe_ix ix_str (pv 1) (pe_op op_add (pv 2) pe_int) (fun _ _ => rfl))) (nomark _)))))) (fun _ _ _ _ _ => pv 2))
      (pss_cons (ps_while PassesOwn.never (pt_cmpR (op_neD hr.units) (pv 3) (pe_lst pa_nil) (nomark _))
        (pss_cons (ps_set (i := 2) scClr.nd rfl (Or.inl rfl) (pe_call GP hr (by rfl) DP.m DP.F.kp DP.b .nil pass0 (pa_cons (pv 0) (pa_cons (pv 3) pa_nil))))
        (pss_cons (ps_set (i := 1) scClr.nd rfl (Or.inr rfl) (pe_op op_add_str (pe_slice sl_str (pv 1) po_none (po_some (pv 2))) (pe_slice sl_str (pv 1) (po_some (pe_op op_add (pv 2) pe_int)) po_none)))
        (pss_one (ps_setLc (i := 3) (own := [("_law_at", 2)]) (g := gName 2) (tt := ttSp) rfl scClr.nd rfl rfl (by rfl) (pi_range1 rfl T.range (pa_cons (pe_op op_sub (pe_callB call_len_str (by rfl) T.len PySem.boot_len (pa_cons (pv 1) pa_nil)) pe_int) pa_nil))
          (blkOk_by (own := [("_law_at", 2)]) (N := nClr) (sc := defScope sCleared) (by decide +kernel)) (fun _ _ _ _ _ => pg_name (i := 2) scClr.nd rfl (Or.inl rfl))
          (fun _ _ _ _ _ => pts_one (PW.pt (pw_and (pt_cmpR op_ne (pe_ix ix_str (pv 1) (pv 2) (fun _ _ => rfl)) (pe_ix ix_str (pv 1) (pe_op op_add (pv 2) pe_int) (fun _ _ => rfl)) (nomark _))
            (pw_and1 (pt_cmpR op_eq (pe_lower (pe_ix ix_str (pv 1) (pv 2) (fun _ _ => rfl))) (pe_lower (pe_ix ix_str (pv 1) (pe_op op_add (pv 2) pe_int) (fun _ _ => rfl))) (nomark _)))))) (fun _ _ _ _ _ => pv 2))))))
      (pss_one (ps_ret (pv 1)))), ?_⟩
    have rng : ∀ (z1 : Str) (u2 u3 : Option V) (H1 : Hp), z1.length ≤ 100 → ∀ R : It → Hp → Prop, R (Itr 0 ((cds z1).length - 1)) H1 → ∃ j : Int, [V.int ((z1.length : Int) - 1)] = [V.int j] ∧ -(2 ^ 62) ≤ j ∧ j < 2 ^ 62 ∧ R (Itr 0 j.toNat) H1 := fun z1 u2 u3 H1 h1 R hR => by
      have := cds_len z1
      refine ⟨_, rfl, by omega, by omega, ?_⟩
      rw [show ((z1.length : Int) - 1).toNat = (cds z1).length - 1 by omega]
      exact hR
    show tSeq _ _ _ [some (.ref c), some (.str z), none, none] H
    refine seq_spots hsg hz (by omega) (fun R hR => ⟨_, rfl, z, rfl, Nat.le_trans hl (by decide), _, _, rfl, rfl, rng z none none H (by omega) R hR⟩) fun D H1 nD s1 e1 => ?_
    refine while_by (fun σ H2 => ∃ (z1 : Str) (u2 : Option V) (D : Addr), σ = [some (.ref c), some (.str z1), u2, some (.ref D)] ∧ Cup H2 c ∧ But c H H2 ∧ Sgd sg z1 ∧ Cu.nf (Ls z1) = Cu.nf (Ls z) ∧ z1.length ≤ 50 ∧ D ≠ c ∧ H2 D = some (.lst (nats (spots (cds z1)))))
      (fun σ _ => match σ with
        | [_, some (.str y), _, _] => y.length
        | _ => 0) ⟨z, none, D, rfl, hc.same s1, But.of s1, hz, rfl, hl, hc.ne nD, e1⟩ ?_ ?_
    · rintro σ H2 ⟨z1, u2, D, rfl, hc2, b2, hz1, hn1, hl1, nDc, e2⟩
      have hcl := cds_len z1
      have ls : (spots (cds z1)).length ≤ 50 := by
        have := List.length_filter_le (bad (cds z1)) (List.range ((cds z1).length - 1))
        rw [List.length_range] at this
        unfold spots
        omega
      refine ⟨_, rfl, Nat.zero_le _, fun pe npe => ?_⟩
      have se := same_upd (o := .lst []) npe
      refine ⟨.list (natsD (spots (cds z1))), .list (natsD []), .lst (SqL.of (se _ _ e2)) (nats_all K _ _), .lst (SqL.of upd_same) (nats_all K _ []), shaped_lst _, shaped_lst [], _, rfl, ?_⟩
      rw [eqv_none]
      by_cases e0 : spots (cds z1) = []
      · rw [decide_eq_true e0]
        refine iteF ⟨_, rfl, q z1 _ hz1 ?_ (hc2.same se) (b2.trans (But.of se))⟩
        rw [← hn1, spots_nil hsg hz1 e0]
      · rw [decide_eq_false e0]
        have l0 : 0 < (nats (spots (cds z1))).length := by
          rw [List.length_map]
          exact List.length_pos_iff.mpr e0
        refine iteT ⟨_, rfl, _, rfl, c, hc2.same se, .inl ⟨D, _, rfl, nDc, se _ _ e2, l0, by rw [List.length_map]; omega, fun x H3 hx hc3 b3 => ?_⟩⟩
        obtain ⟨i, hi, rfl⟩ := List.mem_map.mp hx
        obtain ⟨h2, h3, h4⟩ := spots_mem hi
        have hline : z1.length ≤ sizeLine := Nat.le_trans hl1 (by decide)
        have c1 := cut_to (z := z1) (i := i) (by omega)
        have c2 : cds (cutS z1 (some ((i : Int) + 2)) none) = (cds z1).drop (i + 2) := by
          rw [show (i : Int) + 2 = ((i + 2 : Nat) : Int) by omega]
          exact cut_from (by omega)
        have k1 := cutS_length z1 none (some (i : Int))
        have k2 := cutS_length z1 (some ((i : Int) + 2)) none
        refine ⟨_, rfl, _, rfl, _, rfl, z1, rfl, hline, _, rfl, _, rfl, _, _, rfl, rfl, _, rfl, z1, rfl, hline, _, _, rfl, rfl, Nat.le_trans (show _ ≤ 100 by omega) (by decide), ?_⟩
        have ey : cds (cutS z1 none (some (i : Int)) ++ cutS z1 (some ((i : Int) + 2)) none) = (cds z1).take i ++ (cds z1).drop (i + 2) := by
          rw [cds_app, c1, c2]
        obtain ⟨n1, n2⟩ := cut_nf hsg hz1 hi ey
        have hly : (cutS z1 none (some (i : Int)) ++ cutS z1 (some ((i : Int) + 2)) none).length + 2 = z1.length := by
          rw [← cds_len, ey, List.length_append, List.length_take, List.length_drop]
          omega
        dsimp only [gName]
        show tAsg _ _ _ [some (.ref c), some (.str (cutS z1 none (some (i : Int)) ++ cutS z1 (some ((i : Int) + 2)) none)), some (.int (i : Int)), some (.ref D)] H3
        generalize cutS z1 none (some (i : Int)) ++ cutS z1 (some ((i : Int) + 2)) none = y at n1 n2 hly ⊢
        refine asg_spots hsg n2 (by omega) (fun R hR => ⟨_, rfl, y, rfl, Nat.le_trans (show y.length ≤ 100 by omega) (by decide), _, _, rfl, rfl, rng y none none H3 (by omega) R hR⟩) fun D2 H4 nD2 s4 e4 => ?_
        refine ⟨⟨y, _, D2, rfl, hc3.same s4, (b2.trans (But.of se)).trans (b3.trans (But.of s4)), n2, n1.trans hn1, by omega, hc3.ne nD2, e4⟩, ?_⟩
        show y.length < z1.length
        omega
    · rintro σ H2 Q1 Q2 hQ ⟨v, e, hlen, hq⟩
      refine ⟨v, e, hlen, fun p np => ?_⟩
      obtain ⟨d, e', x1, x2, x3, x4, k, ek, hk⟩ := hq p np
      exact ⟨d, e', x1, x2, x3, x4, k, ek, hQ _ _ hk⟩
end
end K4

set_option Elab.async false
set_option linter.all false
set_option maxRecDepth 100000
set_option maxHeartbeats 3200000
namespace K4
open PySem L2 Tx Tg Tm
theorem Ru.mono {sg : Str} {B C : Nat} {l : Row} (h : Ru sg B l) (hb : B ≤ C) : Ru sg C l := fun p hp => ⟨(h p hp).1, Nat.le_trans (h p hp).2 hb⟩
theorem Ru.app {sg : Str} {B : Nat} {l k : Row} (h : Ru sg B l) (h' : Ru sg B k) : Ru sg B (l ++ k) := fun p hp => by
  rcases List.mem_append.mp hp with hp | hp
  · exact h p hp
  · exact h' p hp
theorem sqt_but {K : PySem.W.Frag} {H H' : Hp} {c a : Addr} {ys : List V} (hc : Cup H c) (b : But c H H') (h : SqT K H a ys) : SqT K H' a ys := by
  rcases h with h | h
  · rcases h with h | ⟨o, h⟩
    · exact .inl (.inl (b _ _ (not_cup hc h (fun _ z => by cases z)) h))
    · exact .inl (.inr ⟨o, b _ _ (not_cup hc h (fun _ z => by cases z)) h⟩)
  · exact .inr h
theorem pairs_but {H H' : Hp} {c : Addr} {ys : List V} {l : Row} (hc : Cup H c) (b : But c H H') (h : PairsAt H ys l) : PairsAt H' ys l := h.mono fun y p ⟨t, e1, e2⟩ => ⟨t, e1, b _ _ (not_cup hc e2 (fun _ z => by cases z)) e2⟩
theorem two_push {x : Str} {m n : Int} {r : Row} (h : Wm.Red r) : Wm.joint r [(x, m), (x, n)] = Wm.push (x, m + n) r := Wm.push_push h
section
variable {P : Program} {w : World} {K : PySem.W.Frag} {mg : Str → Option Value} {base : Heap}
abbrev nParts : List Str := ["_law_cup_here", "_law_row_here", "_law_found", "_law_sign", "_law_much", "_law_less"]
def spParts (K : PySem.W.Frag) : Sp := fun vs H Q _ => ∃ (c a : Addr) (sg : Str) (l : Row) (B : Nat), vs = [.ref c, .ref a] ∧ Cup H c ∧ Signs sg ∧ TupRow K H a l ∧ Ru sg B l ∧ l.length ≤ 10 ∧
  ∀ p H' l', Cup H' c → But c H H' → TupRow K H' p l' → Ru sg (B + 10) l' → l'.length ≤ 20 → rowOf l' = rowOf l → Q (.ref p) H'
theorem scParts : FnScope nParts ["_law_cup_here", "_law_row_here"] (defScope sInParts) := ⟨rfl, rfl, rfl, by decide +kernel, rfl, by decide +kernel, by decide +kernel⟩
theorem ok_parts {f fB fP : Addr} {fd fdB fdP : FuncData} (F : Fun K "_law_in_parts" "_law_in_parts" sInParts f fd) (T : Txt K mg) (DB : Df K mg "_law_bit" sBit ["_law_cup_here", "_law_much"] fB fdB) (DP : Df K mg "_law_pick" sPick ["_law_cup_here", "_law_items"] fP fdP) :
    FnOk P w K mg base CX0 3 f fd ["_law_cup_here", "_law_row_here"] (spParts K) := by
  have GB := ok_bit (P := P) (w := w) (base := base) DB.F T
  have GP := ok_pick (P := P) (w := w) (base := base) DP.F T DB
  refine F.ok scParts (fun vs H Q E h => ?_) (fun cdv A outer s H vs Q E hr h => ?_)
  · obtain ⟨c, a, sg, l, B, rfl, _⟩ := h
    rfl
  · obtain ⟨c, a, sg, l, B, rfl, hc, hsg, ha, hru, hl, q⟩ := h
    obtain ⟨ys, hy, hp⟩ := id ha
    have r1 : Room 1 _ := hr.mono (by decide)
    refine ⟨_, pss_cons (ps_set (i := 2) scParts.nd rfl (Or.inl rfl) (pe_tup pa_nil))
      (pss_cons (ps_for PassesOwn.never rfl (pi_tup (pv 1)) (pg_tup rfl (pgs_cons (pg_name (i := 3) scParts.nd rfl (Or.inl rfl)) (pgs_cons (pg_name (i := 4) scParts.nd rfl (Or.inl rfl)) pgs_nil)))
        (pss_cons (ps_set (i := 5) scParts.nd rfl (Or.inl rfl) (pe_op op_sub (pe_call GB r1 (by rfl) DB.m DB.F.kp DB.b .nil pass0 (pa_cons (pv 0) (pa_cons pe_int pa_nil))) pe_int))
        (pss_one (ps_set (i := 2) scParts.nd rfl (Or.inl rfl) (pe_op op_catRow (pv 2) (pe_call GP hr (by rfl) DP.m DP.F.kp DP.b .nil pass0 (pa_cons (pv 0) (pa_cons (pe_lst
          (pa_cons (pe_tup (pa_cons (pe_tup (pa_cons (pv 3) (pa_cons (pv 4) pa_nil))) pa_nil))
          (pa_cons (pe_tup (pa_cons (pe_tup (pa_cons (pv 3) (pa_cons (pv 5) pa_nil))) (pa_cons (pe_tup (pa_cons (pv 3) (pa_cons (pe_op op_sub (pv 4) (pv 5)) pa_nil))) pa_nil)))
          (pa_cons (pe_tup (pa_cons (pe_tup (pa_cons (pv 3) (pa_cons pe_int pa_nil))) (pa_cons (pe_tup (pa_cons (pv 3) (pa_cons (pv 4) pa_nil))) pa_nil))) pa_nil)))) pa_nil))))))))
      (pss_one (ps_ret (pv 2)))), ?_⟩
    refine ⟨by decide, fun pe npe => ?_⟩
    have s0 := same_upd (o := .tup []) npe
    have he : TupRow K (upd H pe (.tup [])) pe [] := .new upd_same .nil
    have hc0 := hc.same s0
    have b0 := But.of (c := c) s0
    generalize upd H pe (.tup []) = H0 at he hc0 b0 ⊢
    have hlen : ys.length = l.length := hp.length
    obtain ⟨ys', hy', hp'⟩ : TupRow K H0 a l := ha.but hc b0
    refine ⟨_, rfl, a, rfl, ⟨_, hy'⟩, ?_⟩
    have hlen' : ys'.length = l.length := hp'.length
    refine for_tup (xs := ys') (fun i σ H1 => ∃ (p : Addr) (u3 u4 u5 : Option V) (l' : Row), σ = [some (.ref c), some (.ref a), some (.ref p), u3, u4, u5] ∧ Cup H1 c ∧ But c H H1 ∧ TupRow K H1 p l' ∧ (SqT K H1 a ys' ∧ PairsAt H1 ys' l) ∧ l'.length ≤ 2 * i ∧ Ru sg (B + 10) l' ∧ Wm.joint [] l' = Wm.joint [] (l.take i))
      ⟨pe, none, none, none, [], rfl, hc0, b0, he, ⟨hy', hp'⟩, Nat.zero_le _, (fun p hp => (by cases hp)), rfl⟩ (fun i σ H1 _ z => by obtain ⟨_, _, _, _, _, _, _, _, _, z, _⟩ := z; exact z.1) ?_ ?_
    · rintro i x σ H1 hx ⟨p, u3, u4, u5, l', rfl, hc1, b1, hp1, ⟨hy1, hpp1⟩, hl1, hr1, hj1⟩
      obtain ⟨hi, t, rfl, et⟩ := pair_at hpp1 hx
      obtain ⟨⟨d, hd, ed⟩, hB⟩ := hru l[i] (List.getElem_mem hi)
      obtain ⟨y, n, eln⟩ : ∃ y n, l[i] = (y, n) := ⟨_, _, rfl⟩
      rw [eln] at et ed hB
      have ed : y = one d := ed
      subst ed
      have hB : n.natAbs ≤ B := hB
      refine ⟨t, _, rfl, SqT.of et, rfl, _, _, rfl, _, _, rfl, rfl, ?_⟩
      refine ⟨_, rfl, c, 9, rfl, hc1, by decide, sm (by decide) (by decide), fun r H2 r0 r9 hc2 b2 => ?_⟩
      refine ⟨_, _, rfl, rfl, ?_⟩
      have hp2 := hp1.but hc1 b2
      have hA2 : TupRow K H2 a l := TupRow.but hc1 b2 ⟨ys', hy1, hpp1⟩
      refine ⟨_, rfl, _, rfl, _, rfl, _, rfl, by show 2 ≤ sizeLine; decide, fun t1 n1 => ⟨by show 1 ≤ sizeLine; decide, fun o1 m1 => ?_⟩⟩
      refine ⟨_, rfl, _, rfl, by show 2 ≤ sizeLine; decide, fun t2 n2 => ⟨_, rfl, _, rfl, _, rfl, _, _, rfl, rfl, by show 2 ≤ sizeLine; decide, fun t3 n3 => ⟨by show 2 ≤ sizeLine; decide, fun o2 m2 => ?_⟩⟩⟩
      refine ⟨_, rfl, by show 2 ≤ sizeLine; decide, fun t4 n4 => ⟨_, rfl, _, rfl, by show 2 ≤ sizeLine; decide, fun t5 n5 => ⟨by show 2 ≤ sizeLine; decide, fun o3 m3 => ⟨by show 3 ≤ sizeLine; decide, fun L nL => ?_⟩⟩⟩⟩
      have k9 := same_upd (o := .lst [.ref o1, .ref o2, .ref o3]) nL
      have k8 := (same_upd (o := .tup [.ref t4, .ref t5]) m3).trans k9
      have k7 := (same_upd (o := .tup [.str (one d), .int n]) n5).trans k8
      have k6 := (same_upd (o := .tup [.str (one d), .int 0]) n4).trans k7
      have k5 := (same_upd (o := .tup [.ref t2, .ref t3]) m2).trans k6
      have k4 := (same_upd (o := .tup [.str (one d), .int (n - (r - 4))]) n3).trans k5
      have k3 := (same_upd (o := .tup [.str (one d), .int (r - 4)]) n2).trans k4
      have k2 := (same_upd (o := .tup [.ref t1]) m1).trans k3
      have k1 := (same_upd (o := .tup [.str (one d), .int n]) n1).trans k2
      have f1 := k2 _ _ upd_same
      have g1 := k3 _ _ upd_same
      have f2 := k4 _ _ upd_same
      have f3 := k5 _ _ upd_same
      have g2 := k6 _ _ upd_same
      have f4 := k7 _ _ upd_same
      have f5 := k8 _ _ upd_same
      have g3 := k9 _ _ upd_same
      have R1 : TupRow K _ o1 [(one d, n)] := .new g1 (.cons ⟨t1, rfl, f1⟩ .nil)
      have R2 : TupRow K _ o2 [(one d, r - 4), (one d, n - (r - 4))] := .new g2 (.cons ⟨t2, rfl, f2⟩ (.cons ⟨t3, rfl, f3⟩ .nil))
      have R3 : TupRow K _ o3 [(one d, 0), (one d, n)] := .new g3 (.cons ⟨t4, rfl, f4⟩ (.cons ⟨t5, rfl, f5⟩ .nil))
      have hc3 := hc2.same k1
      have nLc : L ≠ c := (hc2.same ((same_upd (o := .tup [.str (one d), .int n]) n1).trans ((same_upd (o := .tup [.ref t1]) m1).trans ((same_upd (o := .tup [.str (one d), .int (r - 4)]) n2).trans ((same_upd (o := .tup [.str (one d), .int (n - (r - 4))]) n3).trans ((same_upd (o := .tup [.ref t2, .ref t3]) m2).trans ((same_upd (o := .tup [.str (one d), .int 0]) n4).trans ((same_upd (o := .tup [.str (one d), .int n]) n5).trans (same_upd (o := .tup [.ref t4, .ref t5]) m3))))))))).ne nL
      have redI : Wm.Red (Wm.joint [] (l.take i)) := Wm.red_joint trivial
      have hji : Wm.joint [] (l.take (i + 1)) = Wm.push (one d, n) (Wm.joint [] (l.take i)) := joint_take (by rw [List.getElem?_eq_getElem hi, eln])
      have bAll := (b1.trans b2).trans (But.of (c := c) k1)
      have step : ∀ (o : Addr) (k : Row) (H6 : Hp), Cup H6 c → But c H2 H6 → TupRow K H6 o k → k.length ≤ 2 → Ru sg (B + 10) k → Wm.joint (Wm.joint [] (l.take i)) k = Wm.push (one d, n) (Wm.joint [] (l.take i)) →
          rCatRow K (.ref p) (.ref o) H6 fun x H' => ∃ (p : Addr) (u3 u4 u5 : Option V) (l' : Row), (([some (V.ref c), some (V.ref a), some (V.ref p), some (V.str (one d)), some (V.int n), some (V.int (r - 4))] : L2.St).set 2 (some x)) = [some (V.ref c), some (V.ref a), some (V.ref p), u3, u4, u5] ∧ Cup H' c ∧ But c H H' ∧ TupRow K H' p l' ∧ (SqT K H' a ys' ∧ PairsAt H' ys' l) ∧ l'.length ≤ 2 * (i + 1) ∧ Ru sg (B + 10) l' ∧ Wm.joint [] l' = Wm.joint [] (l.take (i + 1)) := by
        intro o k H6 hc6 b6 ho hk hrk hjk
        have hp6 := hp2.but hc2 b6
        refine ⟨p, o, l', k, rfl, rfl, hp6, ho, by omega, fun p2 H7 s7 h7 => ?_⟩
        refine ⟨p2, _, _, _, l' ++ k, rfl, hc6.same s7, (b1.trans b2).trans (b6.trans (But.of s7)), h7, ⟨sqt_but hc1 (b2.trans (b6.trans (But.of s7))) hy1, pairs_but hc1 (b2.trans (b6.trans (But.of s7))) hpp1⟩, by rw [List.length_append]; omega, hr1.app hrk, ?_⟩
        rw [Wm.joint_app, hj1, hjk, hji]
      refine ⟨c, hc3, .inl ⟨L, _, rfl, nLc, upd_same, by show 0 < 3; decide, by show 3 < 100; decide, fun x H6 hx hc6 b6 => ?_⟩⟩
      have b26 := (But.of (c := c) k1).trans b6
      have ru1 : ∀ m : Int, m.natAbs ≤ B + 10 → ∀ p ∈ [((one d : Str), m)], (∃ c ∈ cds sg, p.1 = one c) ∧ p.2.natAbs ≤ B + 10 := fun m hm p hp => by
        rw [List.mem_singleton.mp hp]
        exact ⟨⟨d, hd, rfl⟩, hm⟩
      rcases List.mem_cons.mp hx with rfl | hx
      · exact step o1 _ H6 hc6 b26 (R1.but hc3 b6) (by show 1 ≤ 2; decide) (ru1 n (by omega)) rfl
      rcases List.mem_cons.mp hx with rfl | hx
      · refine step o2 _ H6 hc6 b26 (R2.but hc3 b6) (Nat.le_refl 2) (Ru.app (l := [_]) (k := [_]) (ru1 _ (by omega)) (ru1 _ (by omega))) ?_
        rw [two_push redI, show r - 4 + (n - (r - 4)) = n by omega]
      rcases List.mem_cons.mp hx with rfl | hx
      · refine step o3 _ H6 hc6 b26 (R3.but hc3 b6) (Nat.le_refl 2) (Ru.app (l := [_]) (k := [_]) (ru1 _ (by show 0 ≤ B + 10; omega)) (ru1 _ (by omega))) ?_
        rw [two_push redI, Int.zero_add]
      cases hx
    · rintro σ H1 ⟨p, u3, u4, u5, l', rfl, hc1, b1, hp1, _, hl1, hr1, hj1⟩
      rw [List.take_of_length_le (by omega)] at hj1
      exact ⟨_, rfl, q p H1 l' hc1 b1 hp1 hr1 (by omega) (congrArg List.reverse hj1)⟩
end
end K4

set_option Elab.async false
set_option linter.all false
set_option maxRecDepth 100000
set_option maxHeartbeats 3200000
namespace K4
open PySem PySem.Spec PyProof.Rows L2 Tx Tg Tm
/-! a text from right to left -/
def backS (z : Str) : Str := ⟨((Builtin.Str.strSliceIndices none none (-1) z.length).filterMap (z.cps[·]?)).toArray⟩
theorem backS_mem {z : Str} {c : Nat} (h : c ∈ cds (backS z)) : c ∈ cds z := by
  have h : c ∈ (Builtin.Str.strSliceIndices none none (-1) z.length).filterMap (z.cps[·]?) := h
  obtain ⟨i, _, hi⟩ := List.mem_filterMap.mp h
  exact Array.mem_toList_iff.mpr (Array.mem_of_getElem? hi)
theorem backS_len (z : Str) : (backS z).length ≤ z.length := by
  have h1 : (backS z).length = ((Builtin.Str.strSliceIndices none none (-1) z.length).filterMap (z.cps[·]?)).length := by
    show (List.toArray _).size = _
    rw [List.size_toArray]
  rw [h1]
  refine Nat.le_trans (List.length_filterMap_le _ _) ?_
  rw [picked_rev, List.length_map, List.length_range]
  exact Nat.le_refl _
section
variable {X : Cx}
def tBackS (te : TE) : TE := fun σ H Q => te σ H fun x H1 => ∃ z, x = .str z ∧ z.length ≤ sizeLine ∧ Q (.str (backS z)) H1
theorem pe_backS {e : Expr} {te : TE} {k : Nat} {p1 p2 p3 pos : Pos} (he : PE X e te) : PE X (.Subscript e (.Slice none none (some (.UnaryOp .USub (.Constant (.int 1) k p1) p2)) p3) pos) (tBackS te) := by
  refine ⟨fun pins s σ H Q I h => Subscript_ (thn (he.run pins s σ H _ I h) fun v s1 ⟨x, H1, I1, r1, z, ex, hx, q⟩ => ?_)⟩
  subst ex
  obtain ⟨t, rfl⟩ := r1
  have minus : PO X (some (.UnaryOp .USub (.Constant (.int 1) k p1) p2)) (tPart (tUn (rU fun i => .int (-i)) (tC (.int 1)))) := po_some (pe_un un_neg pe_int)
  refine wpAny_Slice (thn (po_none.run pins s1 σ H1 (fun o H2 => o = none ∧ H2 = H1) I1 ⟨rfl, rfl⟩) fun vl s2 ⟨l, H2, I2, pl, el, e2⟩ => ?_)
  subst el e2
  refine thn (po_none.run pins s2 σ H2 (fun o H3 => o = none ∧ H3 = H2) I2 ⟨rfl, rfl⟩) fun vu s3 ⟨u, H3, I3, pu, eu, e3⟩ => ?_
  subst eu e3
  refine thn (minus.run pins s3 σ H3 (fun o H4 => o = some (-1) ∧ H4 = H3) I3 ⟨1, rfl, -1, rfl, rfl, rfl⟩) fun vs s4 ⟨o, H4, I4, ps, eo, e4⟩ => ?_
  subst eo e4
  have I5 : Inv X pins σ H4 { s4 with heap := s4.heap.push { cls := .type "slice", data := .fields #[vl, vu, vs] } } := I4.kept (t' := s4.toks) fun b ob q => Heap.get?_push_of_some _ q
  cases pl
  cases pu
  cases ps with
  | int _ tt =>
    show wpAny (model X.prog X.w) X.A (subscriptTail e (.Slice none none (some (.UnaryOp .USub (.Constant (.int 1) k p1) p2)) p3) (.str z t) (.ref s4.heap.objs.size)) (EP X pins σ Q) X.xe _
    obtain ⟨os, hos, hcs, hds⟩ := Heap.IsSliceOf.new s4.heap .none .none (.int (-1) tt)
    refine tail_any (ops := [.str z t, .ref s4.heap.objs.size]) (typeIs_str _ _ _) PySem.F.slot_str_getitem.lookup ?_ (by with_unfolding_all rfl)
    refine wpAny_getItem_str_slice (l := none) (u := none) (st := some (-1, tt)) ⟨os, hos, hcs, hds⟩ rfl ?_
    have hl := backS_len z
    show Made.post (if ((-1 : Int) == 1 && (Builtin.Str.strSliceIndices none none (-1) z.length).length == z.length) = true then Made.val (.str z t)
      else Made.str (backS z)) (EP X pins σ Q) _
    rw [if_neg (by simp)]
    exact ⟨Nat.le_trans hl hx, .str _, _, I5.tok _, ⟨_, rfl⟩, q⟩
end
end K4

set_option Elab.async false
set_option linter.all false
set_option maxRecDepth 100000
set_option maxHeartbeats 6400000
namespace K4
open PySem L2 Tx Tg Tm
theorem WordAt.but {K : PySem.W.Frag} {CW : Addr} {H H' : Hp} {c a : Addr} {sg : Str} {l : Row} (hc : Cup H c) (b : But c H H') (h : WordAt K CW H a sg l) : WordAt K CW H' a sg l := by
  obtain ⟨dx, p, e, r⟩ := h
  exact ⟨dx, p, b _ _ (not_cup hc e (fun _ z => by cases z)) e, r.but hc b⟩
theorem run_len : ∀ (l s : List (Str × Bool)), (Cu.run s l).length ≤ s.length + l.length
  | [], _ => Nat.le_refl _
  | x :: l, s => by
    have h1 := run_len l (Cu.pushS x s)
    have h2 : (Cu.pushS x s).length ≤ s.length + 1 := by
      cases s with
      | nil => exact Nat.le_refl _
      | cons y r =>
        show (if y = Cu.opp x then r else x :: y :: r).length ≤ _
        split
        · simp only [List.length_cons]; omega
        · simp only [List.length_cons]; omega
    rw [List.length_cons]
    exact Nat.le_trans h1 (by omega)
theorem nf_len (l : List (Str × Bool)) : (Cu.nf l).length ≤ l.length := by
  unfold Cu.nf
  rw [List.length_reverse]
  have := run_len l []
  have : ([] : List (Str × Bool)).length = 0 := rfl
  omega
theorem nf_nf (l : List (Str × Bool)) : Cu.nf (Cu.nf l) = Cu.nf l := by
  unfold Cu.nf
  have hp : Cu.Plain (Cu.run [] l) := Cu.plain_run trivial
  rw [Cu.run_plain (l := (Cu.run [] l).reverse) (s := []) (by rw [List.reverse_reverse, List.append_nil]; exact hp), List.append_nil, List.reverse_reverse]
theorem y_len {y z : Str} (e : Ls y = Cu.nf (Ls z)) : y.length ≤ z.length := by
  have := nf_len (Ls z)
  rw [← e, Ls_len, Ls_len] at this
  exact this
theorem size_sum : ∀ l : Row, sizeL l = ((l.map fun p => p.2.natAbs).sum : Nat)
  | [] => rfl
  | p :: l => by
    show absOf p.2 + sizeL l = ((p.2.natAbs + (l.map fun p => p.2.natAbs).sum : Nat) : Int)
    rw [size_sum l, abs_nat]
    omega
theorem cutS_mem {z : Str} {lo hi : Option Int} {c : Nat} (h : c ∈ cds (cutS z lo hi)) : c ∈ cds z := by
  have h : c ∈ ((z.cps.toList.drop (HT.sIx z.length 0 lo)).take (HT.sIx z.length z.length hi - HT.sIx z.length 0 lo)) := h
  exact List.mem_of_mem_drop (List.mem_of_mem_take h)
theorem Sgd.app {sg a b : Str} (h : Sgd sg a) (k : Sgd sg b) : Sgd sg (a ++ b) := fun c hc => by
  rw [cds_app] at hc
  rcases List.mem_append.mp hc with hc | hc
  · exact h c hc
  · exact k c hc
theorem Sgd.cut {sg z : Str} (h : Sgd sg z) (lo hi : Option Int) : Sgd sg (cutS z lo hi) := fun c hc => h c (cutS_mem hc)
theorem Sgd.one {sg : Str} {c : Nat} (h : Vc sg c) : Sgd sg (one c) := fun d hd => by rw [List.mem_singleton.mp (show d ∈ [c] from hd)]; exact h
theorem rowZ_pl {sg z : Str} (hsg : Signs sg) (hz : Sgd sg z) (hl : z.length ≤ 100) : Pl (rowZ z) := (rowZ_ru hsg hz hl).pl (signs_plain hsg)
theorem row_eq_short {sg z y o x : Str} (hsg : Signs sg) (hy : Sgd sg y) (hx : Sgd sg x) (e1 : Ls y = Cu.nf (Ls z)) (e2 : Ls x = Cu.nf (Ls o)) : decide (rowZ o = rowZ z) = decide (x = y) := decide_eq_decide.mpr ⟨fun e => Ls_inj hsg hx hy (by rw [e1, e2]; exact (rowZ_iff o z).mp e), fun e => (rowZ_iff o z).mpr (by rw [← e1, ← e2, e])⟩
theorem near_nf {sg z : Str} (hsg : Signs sg) {i d : Nat} (hi : i ≤ z.length) (hd : d ∈ cds sg) : Cu.nf (Ls (((cutS z none (some (i : Int)) ++ one d) ++ Txt.upper (one d)) ++ cutS z (some (i : Int)) none)) = Cu.nf (Ls z) := by
  obtain ⟨u1, _, _, u4, u5⟩ := up_one hsg hd
  have e : Ls (((cutS z none (some (i : Int)) ++ one d) ++ Txt.upper (one d)) ++ cutS z (some (i : Int)) none) = ((cds z).take i).map dec ++ (one d, false) :: Cu.opp (one d, false) :: ((cds z).drop i).map dec := by
    show (cds _).map dec = _
    rw [cds_app, cds_app, cds_app, cut_to hi, cut_from hi, u1, List.map_append, List.map_append, List.map_append]
    show ((_ ++ [dec d]) ++ [dec (d - 32)]) ++ _ = _
    rw [u4, u5]
    simp [Cu.opp]
  rw [e, Cu.nf_cut, ← List.map_append, List.take_append_drop]
  rfl
/-- the class, as the law sees it -/
structure Cl3 (P : Program) (w : World) (K : PySem.W.Frag) (mg : Str → Option Value) (base : Heap) (CM CW : Addr) where
  W : WF K mg CM CW
  (fMI fWI fEq fLen fSh fRu fSi fLe fIx fIt fSt fPl pR pS pL pO gO : Addr)
  (dMI dWI dEq dLen dSh dRu dSi dLe dIx dIt dSt dPl : FuncData)
  (mc : Value)
  MK : Makes4 P w K mg base CM CW fMI fWI dMI dWI
  gEq : FnOk P w K mg base CX0 1 fEq dEq ["self", "other"] (spEq K CW)
  gEqX : FnOk P w K mg base CX0 1 fEq dEq ["self", "other"] (spEqX K CW)
  gLen : FnOk P w K mg base CX0 1 fLen dLen ["self"] (spLen K CW)
  gSh : FnOk P w K mg base CX0 3 fSh dSh ["self"] (spShort K CW)
  gRu : FnOk P w K mg base CX0 1 fRu dRu ["self"] (spRuns K CW)
  gSi : FnOk P w K mg base CX0 1 fSi dSi ["self"] (spSize K CW)
  gLe : FnOk P w K mg base CX0 1 fLe dLe ["self"] (spLet K CW)
  gIx : FnOk P w K mg base CX0 2 fIx dIx ["self", "at"] (spIx K CW)
  gIt : Ow.FnS P w K mg base 1 fIt dIt ["self"] (spIter K CW)
  gSt : FnOk P w K mg base CX0 1 fSt dSt ["self"] (spStr K CW)
  gPl : FnOk P w K mg base CX0 1 fPl dPl ["self"] (spPlain K CW)
  bEq : Binds K dEq ["self", "other"] []
  bLen : Binds K dLen ["self"] []
  bSh : Binds K dSh ["self"] []
  bRu : Binds K dRu ["self"] []
  bSi : Binds K dSi ["self"] []
  bLe : Binds K dLe ["self"] []
  bIx : Binds K dIx ["self", "at"] []
  bIt : Binds K dIt ["self"] []
  bSt : Binds K dSt ["self"] []
  bPl : Binds K dPl ["self"] []
  nf : PySem.W.notFirst K CW (.ref CW) = true
  ob : PySem.W.subIn K (.ref CW) (.type "object") = some true
  sEq : PySem.W.findIn K (.ref CW) "__eq__" = some (some (.ref fEq))
  sNe : PySem.W.findIn K (.ref CW) "__ne__" = some (some (.builtin "object.__ne__"))
  sLen : PySem.W.findIn K (.ref CW) "__len__" = some (some (.ref fLen))
  sIx : PySem.W.findIn K (.ref CW) "__getitem__" = some (some (.ref fIx))
  sIt : PySem.W.findIn K (.ref CW) "__iter__" = some (some (.ref fIt))
  sSt : PySem.W.findIn K (.ref CW) "__str__" = some (some (.ref fSt))
  fnEq : PySem.W.isFn K (.ref fEq) = true
  fnLen : PySem.W.isFn K (.ref fLen) = true
  fnIx : PySem.W.isFn K (.ref fIx) = true
  fIxI : PySem.W.fnIn K fIx = true
  fnIt : PySem.W.isFn K (.ref fIt) = true
  fnSt : PySem.W.isFn K (.ref fSt) = true
  mSh : Meth K CW "shortest" fSh
  mPl : Meth K CW "is_plain" fPl
  pRu : PropOf K CW "runs" pR fRu
  pSi : PropOf K CW "size" pS fSi
  pLe : PropOf K CW "letters" pL fLe
  rd : ClX.CRead K CW mc
  cm : ClX.CMet K CW mc "of" pO gO
  gOf : FnR P w K mg base CX0 6 gO (spOf K CW)
section
variable {P : Program} {w : World} {K : PySem.W.Frag} {mg : Str → Option Value} {base : Heap}
abbrev nTR : List Str := ["_law_cup_here", "_law_signs_here", "_law_line", "_law_made", "_law_short", "_law_spot", "_law_sign", "_law_near", "_law_other"]
def spTR : Sp := fun vs H Q _ => ∃ (c : Addr) (sg : Str), vs = [.ref c, .str sg] ∧ Cup H c ∧ Signs sg ∧ ∀ H', But c H H' → Cup H' c → Q (.bl true) H'
theorem scTR : FnScope nTR ["_law_cup_here", "_law_signs_here"] (defScope sTextRight) := ⟨rfl, rfl, rfl, by decide +kernel, rfl, by decide +kernel, by decide +kernel⟩
theorem ok_tr {CM CW f fB fP fM fC fR : Addr} {fd dB dP dM dC dR : FuncData} (F : Fun K "_law_text_right" "_law_text_right" sTextRight f fd) (T : Txt K mg) (C : Cl3 P w K mg base CM CW) (DB : Df K mg "_law_bit" sBit ["_law_cup_here", "_law_much"] fB dB) (DP : Df K mg "_law_pick" sPick ["_law_cup_here", "_law_items"] fP dP)
    (DM : Df K mg "_law_mixed" sMixed ["_law_cup_here", "_law_signs_here", "_law_most"] fM dM) (DC : Df K mg "_law_cleared" sCleared ["_law_cup_here", "_law_line"] fC dC) (DR : Df K mg "_law_row_of" sRowOf ["_law_line"] fR dR)
    (GRo : FnOk P w K mg base CX0 2 fR dR ["_law_line"] (spRowOf K)) : FnOk P w K mg base CX0 7 f fd ["_law_cup_here", "_law_signs_here"] spTR := by
  have GB := ok_bit (P := P) (w := w) (base := base) DB.F T
  have GP := ok_pick (P := P) (w := w) (base := base) DP.F T DB
  have GM := ok_mixed (P := P) (w := w) (base := base) DM.F T DB DP
  have GC := ok_clr (P := P) (w := w) (base := base) DC.F T DP DB
  refine F.ok scTR (fun vs H Q E h => ?_) (fun cdv A outer s H vs Q E hr h => ?_)
  · obtain ⟨c, sg, rfl, _⟩ := h
    rfl
  · obtain ⟨c, sg, rfl, hc, hsg, q⟩ := h
    have r1 : Room 1 _ := hr.mono (by decide)
    have r2 : Room 2 _ := hr.mono (by decide)
    have r3 : Room 3 _ := hr.mono (by decide)
    have r6 : Room 6 _ := hr
    have len0 : 0 < sg.length := by rcases hsg with rfl | rfl | rfl | rfl <;> decide +kernel
    refine ⟨_, (pss_cons (ps_set (i := 2) scTR.nd rfl (Or.inl rfl) (pe_call GM r3 (by rfl) DM.m DM.F.kp DM.b .nil pass0 (pa_cons (pv 0) (pa_cons (pv 1) (pa_cons pe_int pa_nil)))))
      (pss_cons (ps_par (i := 3) (j := 4) (by rfl) scTR.nd rfl rfl (by decide) rfl rfl (pa_cons (ClX.pe_cmeth (pe_glob (v := .ref CW) (by rfl) C.W.gW rfl) C.rd C.cm C.gOf r6 pass0 (pa_cons (pv 1) (pa_cons (pv 2) pa_nil))) (pa_cons (pe_call GC r3 (by rfl) DC.m DC.F.kp DC.b .nil pass0 (pa_cons (pv 0) (pa_cons (pv 2) pa_nil))) pa_nil)) (by rfl))
      (pss_cons (ps_if (PW.pt (pw_or (pt_cmpR (op_neD hr.units) (pe_prop (pv 3) C.W.clW C.pRu C.gRu r2 C.bRu .nil pass0 rfl) (pe_call GRo r2 (by rfl) DR.m DR.F.kp DR.b .nil pass0 (pa_cons (pv 2) pa_nil)) (nomark _))
          (pw_or (pt_cmpR op_ne (pe_meth0 (pv 3) C.W.clW C.mSh C.gSh r3 C.bSh .nil pass0) (pv 4) (nomark _))
          (pw_or (pt_cmpR op_ne (pe_prop (pv 3) C.W.clW C.pSi C.gSi r2 C.bSi .nil pass0 rfl) (pe_callB call_len_str (by rfl) T.len PySem.boot_len (pa_cons (pv 4) pa_nil)) (nomark _))
          (pw_or1 (pt_cmpR (Ow.ne_own C.gEq r2 C.ob C.sNe C.sEq C.fnEq C.bEq pass0) (ClX.pe_cmeth (pe_glob (v := .ref CW) (by rfl) C.W.gW rfl) C.rd C.cm C.gOf r6 pass0 (pa_cons (pv 1) (pa_cons (pv 4) pa_nil))) (pv 3) (nomark _))))))) (pss_one (ps_ret pe_bl)) pss_nil)
      (pss_cons (ps_par (i := 5) (j := 6) (by rfl) scTR.nd rfl rfl (by decide) rfl rfl (pa_cons (pe_call GB r1 (by rfl) DB.m DB.F.kp DB.b .nil pass0 (pa_cons (pv 0) (pa_cons (pe_op op_add (pe_callB call_len_str (by rfl) T.len PySem.boot_len (pa_cons (pv 2) pa_nil)) pe_int) pa_nil))) (pa_cons (pe_call GP r2 (by rfl) DP.m DP.F.kp DP.b .nil pass0 (pa_cons (pv 0) (pa_cons (pv 1) pa_nil))) pa_nil)) (by rfl))
      (pss_cons (ps_set (i := 7) scTR.nd rfl (Or.inl rfl) (pe_lst (pa_cons (pe_op op_add_str (pe_op op_add_str (pe_op op_add_str (pe_slice sl_str (pv 2) po_none (po_some (pv 5))) (pv 6)) (pe_upper (pv 6))) (pe_slice sl_str (pv 2) (po_some (pv 5)) po_none))
          (pa_cons (pe_op op_add_str (pe_op op_add_str (pe_slice sl_str (pv 2) po_none (po_some (pv 5))) (pv 6)) (pe_slice sl_str (pv 2) (po_some (pe_op op_add (pv 5) pe_int)) po_none))
          (pa_cons (pe_backS (pv 2)) (pa_cons (pe_call GM r3 (by rfl) DM.m DM.F.kp DM.b .nil pass0 (pa_cons (pv 0) (pa_cons (pv 1) (pa_cons pe_int pa_nil)))) pa_nil))))))
      (pss_cons (ps_for PassesOwn.never rfl (pi_list (pv 7)) (pg_name (i := 8) scTR.nd rfl (Or.inl rfl))
        (pss_one (ps_if (pt_cmpR op_ne (pe_cmpR (Ow.eq_own C.gEq r1 C.nf C.sEq C.fnEq C.bEq pass0) (ClX.pe_cmeth (pe_glob (v := .ref CW) (by rfl) C.W.gW rfl) C.rd C.cm C.gOf r6 pass0 (pa_cons (pv 1) (pa_cons (pv 8) pa_nil))) (pv 3) (nomark _))
          (pe_cmpR op_eq (pe_call GC r3 (by rfl) DC.m DC.F.kp DC.b .nil pass0 (pa_cons (pv 0) (pa_cons (pv 8) pa_nil))) (pv 4) (nomark _)) (nomark _)) (pss_one (ps_ret pe_bl)) pss_nil)))
      (pss_one (ps_ret (pe_cmpR (Ow.eq_own C.gEq r1 C.nf C.sEq C.fnEq C.bEq pass0) (ClX.pe_cmeth (pe_glob (v := .ref CW) (by rfl) C.W.gW rfl) C.rd C.cm C.gOf r6 pass0 (pa_cons (pv 1) (pa_cons (pe_ix ix_list (pv 7) pe_int (fun _ _ => rfl)) pa_nil))) (pv 3) (nomark _)))))))))), ?_⟩
    refine ⟨_, rfl, _, rfl, c, sg, 12, rfl, hc, hsg, by decide, fun z H1 hz hlz hc1 b1 => ?_⟩
    refine ⟨rfl, _, rfl, _, rfl, sg, z, rfl, hsg, hz, by omega, fun a H2 s2 ha => ?_⟩
    refine ⟨_, rfl, _, rfl, c, sg, z, rfl, hc1.same s2, hsg, hz, by omega, fun y H3 hy ey hc3 b3 => ?_⟩
    refine ⟨_, _, rfl, ?_⟩
    have zline : z.length ≤ sizeLine := Nat.le_trans hlz (by decide)
    have ha3 : WordAt K CW H3 a sg (rowZ z) := ha.but (hc1.same s2) b3
    obtain ⟨dx, p, hins, hrow⟩ := id ha3
    have ylen := y_len ey
    obtain ⟨sh1, sh2, sh3⟩ := rowZ_short hsg hz (by omega)
    have yS : shortT (rowZ z) = y := Ls_inj hsg sh2 hy (sh1.trans ey.symm)
    have sizeY : sizeL (rowZ z) = (y.length : Int) := by rw [size_sum, ← sh3, yS]
    have rowY : rowZ y = rowZ z := (rowZ_iff y z).mpr (by rw [ey, nf_nf])
    have ru := rowZ_ru hsg hz (show z.length ≤ 100 by omega)
    have pl : Pl (rowZ z) := rowZ_pl hsg hz (by omega)
    have rl := rowZ_len z
    refine ⟨_, rfl, a, dx, _, rfl, hins, a, sg, rowZ z, rfl, ha3, fun p1 hp1 => ?_⟩
    refine ⟨_, rfl, sg, z, rfl, hsg, hz, by omega, fun p2 H4 s4 hp2 => ?_⟩
    obtain ⟨ys1, hy1, hpp1⟩ := hp1.same s4
    obtain ⟨ys2, hy2, hpp2⟩ := hp2
    refine ⟨.tuple (rowsD (rowZ z)), .tuple (rowsD (rowZ z)), .tup hy1 (rows_all hpp1), .tup hy2 (rows_all hpp2), shaped_row pl, shaped_row pl, _, rfl, ?_⟩
    rw [show PyData.eqv (.tuple (rowsD (rowZ z))) (.tuple (rowsD (rowZ z))) = decide (rowZ z = rowZ z) from eqv_rows _ _, decide_eq_true rfl]
    refine iteF ?_
    have h4 := ha3.same s4
    have hins4 := s4 _ _ hins
    refine ⟨_, rfl, a, dx, _, rfl, hins4, rfl, a, sg, rowZ z, rfl, h4, hsg, fun p hp => ⟨(ru p hp).1, red_nz (rowZ_red z) p (List.mem_reverse.mpr hp)⟩, fun p hp => (ru p hp).2, by omega, by rw [sizeY]; omega, fun H5 s5 => ?_⟩
    refine ⟨_, rfl, rfl, _, rfl, ?_⟩
    rw [yS, decide_eq_true rfl]
    refine iteF ?_
    refine ⟨_, rfl, a, dx, _, rfl, s5 _ _ hins4, a, sg, rowZ z, rfl, h4.same s5, by omega, fun H6 s6 => ?_⟩
    refine ⟨_, rfl, y, rfl, Nat.le_trans ylen zline, rfl, _, rfl, ?_⟩
    rw [sizeY, decide_eq_true rfl]
    refine iteF ?_
    refine ⟨rfl, _, rfl, _, rfl, sg, y, rfl, hsg, hy, by omega, fun a2 H7 s7 h7 => ?_⟩
    rw [rowY] at h7
    obtain ⟨dx2, px2, hins2, _⟩ := id h7
    have h47 := ((h4.same s5).same s6).same s7
    have hins7 := s7 _ _ (s6 _ _ (s5 _ _ hins4))
    refine ⟨_, rfl, a2, a, dx2, dx, _, _, rfl, rfl, hins2, hins7, a2, a, sg, _, _, rfl, h7, h47, pl, pl, _, rfl, _, rfl, ?_⟩
    rw [decide_eq_true rfl]
    refine iteF ?_
    have s37 := ((s4.trans s5).trans s6).trans s7
    have hc7 := hc3.same s37
    refine ⟨_, rfl, _, rfl, z, rfl, zline, _, _, rfl, rfl, c, (z.length : Int) + 1, rfl, hc7, by omega, sm (by omega) (by omega), fun r H8 r0 rm hc8 b8 => ?_⟩
    obtain ⟨i, rfl⟩ : ∃ i : Nat, r = (i : Int) := ⟨r.toNat, by omega⟩
    obtain ⟨l1, l2, l3⟩ := sg_facts hsg
    refine ⟨_, rfl, _, rfl, c, hc8, .inr ⟨sg, rfl, len0, by omega, fun d H9 hd hc9 b9 => ?_⟩⟩
    refine ⟨_, _, rfl, ?_⟩
    have ud := (up_one hsg hd).1
    have lu : (Txt.upper (one d)).length = 1 := by rw [ud]; rfl
    have lo : (one d).length = 1 := rfl
    have k1 := cutS_length z none (some (i : Int))
    have k2 := cutS_length z (some (i : Int)) none
    have k3 := cutS_length z (some ((i : Int) + 1)) none
    have sml : ∀ {n : Nat}, n ≤ 100 → n ≤ sizeLine := fun h => Nat.le_trans h (by decide)
    refine ⟨_, rfl, _, rfl, _, rfl, z, rfl, zline, _, rfl, _, _, rfl, rfl, sml (by omega), _, rfl, ⟨_, rfl⟩, _, rfl, rfl, by show 1 ≤ 5592405; decide, _, _, rfl, rfl, sml (by rw [str_len]; omega), _, rfl, _, rfl, _, rfl, z, rfl, zline, _, _, rfl, rfl, sml (by rw [str_len, str_len]; omega), ?_⟩
    refine ⟨_, rfl, _, rfl, _, rfl, z, rfl, zline, _, rfl, _, _, rfl, rfl, sml (by omega), _, rfl, _, rfl, _, _, rfl, rfl, _, rfl, z, rfl, zline, _, _, rfl, rfl, sml (by rw [str_len]; omega), ?_⟩
    refine ⟨_, rfl, z, rfl, zline, ?_⟩
    refine ⟨_, rfl, _, rfl, c, sg, 3, rfl, hc9, hsg, by decide, fun w4 H10 hw4 hlw hc10 b10 => ⟨by show 4 ≤ sizeLine; decide, fun L nL => ?_⟩⟩
    have e1 := near_nf (z := z) hsg (show i ≤ z.length by omega) hd
    have v1 : Sgd sg (((cutS z none (some (i : Int)) ++ one d) ++ Txt.upper (one d)) ++ cutS z (some (i : Int)) none) := (((hz.cut _ _).app (Sgd.one (up_one hsg hd).2.1)).app (by rw [ud]; exact Sgd.one (up_one hsg hd).2.2.1)).app (hz.cut _ _)
    have v2 : Sgd sg ((cutS z none (some (i : Int)) ++ one d) ++ cutS z (some ((i : Int) + 1)) none) := ((hz.cut _ _).app (Sgd.one (up_one hsg hd).2.1)).app (hz.cut _ _)
    have v3 : Sgd sg (backS z) := fun c hc => hz c (backS_mem hc)
    have w1 : (((cutS z none (some (i : Int)) ++ one d) ++ Txt.upper (one d)) ++ cutS z (some (i : Int)) none).length ≤ 40 := by rw [str_len, str_len, str_len]; omega
    have w2 : ((cutS z none (some (i : Int)) ++ one d) ++ cutS z (some ((i : Int) + 1)) none).length ≤ 40 := by rw [str_len, str_len]; omega
    have w3 : (backS z).length ≤ 40 := by have := backS_len z; omega
    have s11 := same_upd (o := .lst [.str (((cutS z none (some (i : Int)) ++ one d) ++ Txt.upper (one d)) ++ cutS z (some (i : Int)) none), .str ((cutS z none (some (i : Int)) ++ one d) ++ cutS z (some ((i : Int) + 1)) none), .str (backS z), .str w4]) nL
    have nLc : L ≠ c := hc10.ne nL
    have b79 := (b8.trans b9).trans b10
    have h10 := h47.but hc7 b79
    have hins10 := b79 _ _ (not_cup hc7 hins7 (fun _ z => by cases z)) hins7
    have eL : (upd H10 L (.lst [.str (((cutS z none (some (i : Int)) ++ one d) ++ Txt.upper (one d)) ++ cutS z (some (i : Int)) none), .str ((cutS z none (some (i : Int)) ++ one d) ++ cutS z (some ((i : Int) + 1)) none), .str (backS z), .str w4])) L = some _ := upd_same
    have bAll : But c H _ := ((b1.trans (But.of s2)).trans b3).trans ((But.of s37).trans (b79.trans (But.of s11)))
    have h11 := h10.same s11
    have hins11 := s11 _ _ hins10
    have hc11 := hc10.same s11
    refine ⟨_, rfl, L, rfl, ⟨_, SqL.of eL⟩, ?_⟩
    generalize upd H10 L _ = H11 at s11 eL bAll h11 hins11 hc11 ⊢
    generalize ((cutS z none (some (i : Int)) ++ one d) ++ Txt.upper (one d)) ++ cutS z (some (i : Int)) none = x1 at e1 v1 w1 eL ⊢
    generalize (cutS z none (some (i : Int)) ++ one d) ++ cutS z (some ((i : Int) + 1)) none = x2 at v2 w2 eL ⊢
    generalize backS z = x3 at v3 w3 eL ⊢
    have allO : ∀ o ∈ [x1, x2, x3, w4], Sgd sg o ∧ o.length ≤ 40 := by
      intro o ho
      rcases List.mem_cons.mp ho with rfl | ho
      · exact ⟨v1, w1⟩
      rcases List.mem_cons.mp ho with rfl | ho
      · exact ⟨v2, w2⟩
      rcases List.mem_cons.mp ho with rfl | ho
      · exact ⟨v3, w3⟩
      rcases List.mem_cons.mp ho with rfl | ho
      · exact ⟨hw4, by omega⟩
      cases ho
    refine for_list (xs := ([x1, x2, x3, w4] : List Str).map V.str) (fun j σ H12 => ∃ u8 : Option V, σ = [some (.ref c), some (.str sg), some (.str z), some (.ref a), some (.str y), some (.int (i : Int)), some (.str (one d)), some (.ref L), u8] ∧ Cup H12 c ∧ But c H11 H12)
      ⟨none, rfl, hc11, But.refl c H11⟩ (fun j σ H12 _ hh => by obtain ⟨_, _, _, b⟩ := hh; exact SqL.of (b _ _ nLc eL)) ?_ ?_
    · rintro j x σ H12 hx ⟨u8, rfl, hc12, b12⟩
      obtain ⟨o, ho, rfl⟩ := List.mem_map.mp (List.mem_of_getElem? hx)
      obtain ⟨vo, wo⟩ := allO o ho
      refine ⟨rfl, _, rfl, _, rfl, sg, o, rfl, hsg, vo, by omega, fun a3 H13 s13 h13 => ?_⟩
      obtain ⟨dx3, px3, hins3, _⟩ := id h13
      have h13a := (h11.but hc11 b12).same s13
      have hins13 := s13 _ _ (b12 _ _ (not_cup hc11 hins11 (fun _ z => by cases z)) hins11)
      have plo := rowZ_pl hsg vo (by omega)
      refine ⟨_, rfl, a3, a, dx3, dx, _, _, rfl, rfl, hins3, hins13, a3, a, sg, _, _, rfl, h13, h13a, plo, pl, ?_⟩
      refine ⟨_, rfl, _, rfl, c, sg, o, rfl, hc12.same s13, hsg, vo, by omega, fun x H14 hx2 ex hc14 b14 => ?_⟩
      refine ⟨_, rfl, rfl, rfl, _, rfl, ?_⟩
      have e2 : decide (V.str x = V.str y) = decide (x = y) := decide_eq_decide.mpr ⟨fun e => by injection e, fun e => congrArg V.str e⟩
      rw [e2, row_eq_short hsg hy hx2 ey ex, decide_eq_true rfl]
      exact iteF ⟨_, rfl, hc14, b12.trans ((But.of s13).trans b14)⟩
    · rintro σ H12 ⟨u8, rfl, hc12, b12⟩
      refine ⟨rfl, _, rfl, _, rfl, L, _, 0, .str x1, rfl, rfl, SqL.of (b12 _ _ nLc eL), rfl, sg, x1, rfl, hsg, v1, by omega, fun a3 H13 s13 h13 => ?_⟩
      obtain ⟨dx3, px3, hins3, _⟩ := id h13
      have h13a := (h11.but hc11 b12).same s13
      have hins13 := s13 _ _ (b12 _ _ (not_cup hc11 hins11 (fun _ z => by cases z)) hins11)
      refine ⟨_, rfl, a3, a, dx3, dx, _, _, rfl, rfl, hins3, hins13, a3, a, sg, _, _, rfl, h13, h13a, rowZ_pl hsg v1 (by omega), pl, ?_⟩
      rw [decide_eq_true ((rowZ_iff x1 z).mpr e1)]
      exact q H13 (bAll.trans (b12.trans (But.of s13))) (hc12.same s13)
end
end K4

set_option Elab.async false
set_option linter.all false
set_option maxRecDepth 100000
set_option maxHeartbeats 6400000
namespace K4
open PySem L2 Tx Tg Tm
theorem shaped_rowL {l : Row} (h : Pl l) : SeqAt.shaped (.list (rowsD l)) = true := shaped_row h
abbrev intsD (l : List Int) : List PyData := l.map PyData.int
theorem ints_all (K : PySem.W.Frag) (H : Hp) : ∀ l : List Int, DpAll K H (l.map V.int) (intsD l)
  | [] => .nil
  | p :: l => .cons (.int _) (ints_all K H l)
theorem lay_ints : ∀ l : List Int, PyData.canLayAll0 (intsD l) = true
  | [] => rfl
  | p :: l => by
    show (true && PyData.canLayAll0 (intsD l)) = true
    rw [lay_ints l]
    rfl
theorem deep_ints : ∀ l : List Int, PyData.depthAll (intsD l) = 0
  | [] => rfl
  | p :: l => by
    show max 0 (PyData.depthAll (intsD l)) = 0
    rw [deep_ints l]
    rfl
theorem shaped_ints (l : List Int) : SeqAt.shaped (.list (intsD l)) = true := by
  unfold SeqAt.shaped
  rw [Bool.and_eq_true]
  exact ⟨lay_ints l, decide_eq_true (by show PyData.depthAll (intsD l) + 1 ≤ 64; rw [deep_ints]; decide)⟩
theorem eqv_ints : ∀ l : List Int, PyData.eqv (.list (intsD l)) (.list (intsD [])) = decide (l = [])
  | [] => rfl
  | _ :: _ => rfl
theorem ty_tupT {K : PySem.W.Frag} {H : Hp} {a : Addr} {xs : List V} (h : SqT K H a xs) : TyX K H (.ref a) (.type "tuple") := by
  rcases h with h | ⟨o, its, n, hk, hc, _⟩
  · rcases h with h | ⟨o, h⟩
    · exact .base (.tup h)
    · exact .fTuple h
  · exact .kTuple hk hc
theorem plain_negs : ∀ l : Row, (∀ p ∈ l, p.2 ≠ 0) → (l.all fun p => decide (p.2 > 0)) = decide ((l.filter fun p => decide (p.2 < 0)).map (·.2) = [])
  | [], _ => rfl
  | p :: l, h => by
    have h0 := h p List.mem_cons_self
    rw [List.all_cons, plain_negs l fun q hq => h q (List.mem_cons_of_mem _ hq), List.filter_cons]
    by_cases hn : p.2 < 0
    · rw [decide_eq_true hn, decide_eq_false (show ¬ p.2 > 0 by omega)]
      rfl
    · rw [decide_eq_false hn, decide_eq_true (show p.2 > 0 by omega)]
      rfl
section
def EvF (t : TT) (σ : L2.St) (H0 : Hp) : Prop := ∀ H, Same H0 H → ∀ D : Bool → Hp → Prop, (∀ H', Same H H' → D false H') → t σ H D
variable {σ : L2.St} {H0 H : Hp} {p q : TT} {us : TS} {D : Ends}
theorem ef_or (e1 : EvF p σ H0) (e2 : EvF q σ H0) : EvF (tOr p q) σ H0 := fun H s D q => e1 H s _ fun H1 s1 => iteF (e2 H1 (s.trans s1) _ fun H2 s2 => q H2 (s1.trans s2))
theorem seq_if (e : EvF p σ H0) (s : Same H0 H) (q : ∀ H', Same H H' → us D σ H') : tSeq (tIfS p (tRet (tC (.bl false))) tNext) us D σ H := e H s _ fun H' s' => iteF (q H' s')
end
theorem pairs_same {H H' : Hp} (s : Same H H') {ys : List V} {l : Row} (h : PairsAt H ys l) : PairsAt H' ys l := PairsAt.same s h
theorem eqv_rowsT (l : Row) : PyData.eqv (.tuple (rowsD l)) (.tuple (rowsD l)) = true := (eqv_rows l l).trans (decide_eq_true rfl)
theorem eqv_rowsL (l : Row) : PyData.eqv (.list (rowsD l)) (.list (rowsD l)) = true := (eqv_rows l l).trans (decide_eq_true rfl)
theorem row_word2 {P : Program} {w : World} {K : PySem.W.Frag} {mg : Str → Option Value} {base : Heap} {CM CW fMI fWI : Addr} {dMI dWI : FuncData} (G : Makes4 P w K mg base CM CW fMI fWI dMI dWI) {H : Hp} {sg : Str} {b : Addr} {l : Row} {B : Nat} {R : VK} {E : XK} (hsg : Signs sg) (hb : TupRow K H b l)
    (hru : Ru sg B l) (hB : B < 10 ^ 200) (hl : l.length ≤ 200) {x dx : Addr} (nx : H x = none) (ndx : H dx = none) (nxx : dx ≠ x) (q : ∀ H', Same H H' → WordAt K CW H' x sg (rowOf l) → R .non H') :
    spWordInit K CM CW (.ref x :: ([V.str sg, V.ref b] ++ [])) (upd (upd H dx (.own x)) x (.ins CW dx [])) R E := by
  have s3 : Same H (upd H dx (.own x)) := same_upd ndx
  have n3 : (upd H dx (.own x)) x = none := by rw [upd_ne nxx.symm]; exact nx
  have s4 : Same (upd H dx (.own x)) (upd (upd H dx (.own x)) x (.ins CW dx [])) := same_upd n3
  have ex : (upd (upd H dx (.own x)) x (.ins CW dx [])) x = some (.ins CW dx []) := upd_same
  have s24 := s3.trans s4
  generalize upd (upd H dx (.own x)) x (.ins CW dx []) = H4 at s24 ex ⊢
  have := rowOf_len l
  refine ⟨x, dx, sg, b, l, rfl, ex, hsg, .inr ⟨hb.same s24, B, hru, hB⟩, by omega, by omega, fun H' p bt e hp => q H' (fun c o ec => ?_) ⟨dx, p, e, hp⟩⟩
  exact bt _ _ (ne_of_none ec nx) (s24 _ _ ec)
/-- the class is none of these -/
structure Off (K : PySem.W.Frag) (CW : Addr) (T : String) : Prop where
  n : PySem.W.notFirst K CW (.type T) = true
  k : PySem.W.kitOne K (.type T) (.ref CW) = some false
section
variable {P : Program} {w : World} {K : PySem.W.Frag} {mg : Str → Option Value} {base : Heap}
abbrev nRR : List Str := ["_law_cup_here", "_law_signs_here", "_law_row_here", "_law_other", "_law_made", "_law_again", "_law_sign", "_law_much", "_law_run", "_law_at", "_law_value"]
theorem scRR : FnScope nRR ["_law_cup_here", "_law_signs_here"] (defScope sRowRight) := ⟨rfl, rfl, rfl, by decide +kernel, rfl, by decide +kernel, by decide +kernel⟩
def ttV (K : PySem.W.Frag) (CW : Addr) : TT := tOr (tTest (tOp (Ow.rOwnX K CW (spEqX K CW) E0) (tVar 4) (tVar 10))) (tNot (tTest (tOp (Ow.rOwnNeX K CW (spEqX K CW) E0) (tVar 4) (tVar 10))))
theorem ok_rr {CM CW f fB fP fR fG : Addr} {fd dB dP dR dG : FuncData} (F : Fun K "_law_row_right" "_law_row_right" sRowRight f fd) (T : Txt K mg) (C : Cl3 P w K mg base CM CW) (O1 : Off K CW "NoneType") (O2 : Off K CW "int") (O3 : Off K CW "tuple") (O4 : Off K CW "str") (O5 : Off K CW "list")
    (DR : Df K mg "_law_row" sRow ["_law_cup_here", "_law_signs_here", "_law_much", "_law_most"] fR dR) (DG : Df K mg "_law_in_parts" sInParts ["_law_cup_here", "_law_row_here"] fG dG)
    (GR : FnOk P w K mg base CX0 3 fR dR ["_law_cup_here", "_law_signs_here", "_law_much", "_law_most"] (spDraw K)) (GG : FnOk P w K mg base CX0 3 fG dG ["_law_cup_here", "_law_row_here"] (spParts K)) : FnOk P w K mg base CX0 7 f fd ["_law_cup_here", "_law_signs_here"] spTR := by
  refine F.ok scRR (fun vs H Q E h => ?_) (fun cdv A outer s H vs Q E hr h => ?_)
  · obtain ⟨c, sg, rfl, _⟩ := h
    rfl
  · obtain ⟨c, sg, rfl, hc, hsg, q⟩ := h
    have r1 : Room 1 _ := hr.mono (by decide)
    have r2 : Room 2 _ := hr.mono (by decide)
    have r3 : Room 3 _ := hr.mono (by decide)
    have r5 : Room 5 _ := hr.mono (by decide)
    refine ⟨_, (pss_cons (ps_par (i := 2) (j := 3) (by rfl) scRR.nd rfl rfl (by decide) rfl rfl (pa_cons (pe_call GR r3 (by rfl) DR.m DR.F.kp DR.b .nil pass0 (pa_cons (pv 0) (pa_cons (pv 1) (pa_cons pe_int (pa_cons pe_int pa_nil))))) (pa_cons (pe_call GR r3 (by rfl) DR.m DR.F.kp DR.b .nil pass0 (pa_cons (pv 0) (pa_cons (pv 1) (pa_cons pe_int (pa_cons pe_int pa_nil))))) pa_nil)) (by rfl))
      (pss_cons (ps_asg (pe_tup (pa_cons (pe_make C.MK.mW C.MK.gWI r5 (by rfl) C.W.gW C.MK.bWI .nil pass0 (pa_cons (pv 1) (pa_cons (pv 2) pa_nil))) (pa_cons (pe_make C.MK.mW C.MK.gWI r5 (by rfl) C.W.gW C.MK.bWI .nil pass0 (pa_cons (pv 1) (pa_cons (pe_call GG r3 (by rfl) DG.m DG.F.kp DG.b .nil pass0 (pa_cons (pv 0) (pa_cons (pv 2) pa_nil))) pa_nil))) pa_nil)))
          (pg_tup rfl (pgs_cons (pg_name (i := 4) scRR.nd rfl (Or.inr rfl)) (pgs_cons (pg_name (i := 5) scRR.nd rfl (Or.inl rfl)) pgs_nil))))
      (pss_cons (ps_if (PW.pt (pw_or (pt_cmpR op_ne (pe_prop (pv 4) C.W.clW C.pLe C.gLe r2 C.bLe .nil pass0 rfl) (pv 1) (nomark _))
          (pw_or (pt_cmpR (op_neD hr.units) (pe_prop (pv 4) C.W.clW C.pRu C.gRu r2 C.bRu .nil pass0 rfl) (pv 2) (nomark _))
          (pw_or (pt_cmpR op_ne (pe_callB (Ow.len_own C.gLen r2 C.sLen C.fnLen C.bLen pass0) (by rfl) T.len PySem.boot_len (pa_cons (pv 4) pa_nil)) (pe_callB call_len_seq (by rfl) T.len PySem.boot_len (pa_cons (pv 2) pa_nil)) (nomark _))
          (pw_or1 (pt_cmpR op_ne (pe_prop (pv 4) C.W.clW C.pSi C.gSi r2 C.bSi .nil pass0 rfl) (pe_callB (cr_sum rfl) (by rfl) T.sum (by decide +kernel) (pa_cons (pe_lc (own := [("_law_sign", 6), ("_law_much", 7)]) (g := gTup K 2 (gCons (gName 6) (gCons (gName 7) gNil))) (tt := tYes) rfl scRR.nd (pi_tup (pv 2))
            (blkOk_by (own := [("_law_sign", 6), ("_law_much", 7)]) (N := nRR) (sc := defScope sRowRight) (by decide +kernel))
            (fun _ _ _ _ _ => pg_tup rfl (pgs_cons (pg_name (i := 6) scRR.nd rfl (Or.inl rfl)) (pgs_cons (pg_name (i := 7) scRR.nd rfl (Or.inl rfl)) pgs_nil))) (fun _ _ _ _ _ => pts_nil)
            (fun _ _ _ _ _ => pe_callB call_abs (by rfl) T.abs (by decide +kernel) (pa_cons (pv 7) pa_nil))) pa_nil)) (nomark _))))))) (pss_one (ps_ret pe_bl)) pss_nil)
      (pss_cons (ps_if (PW.pt (pw_or (pt_cmpR (op_neD hr.units) (pe_lc (own := [("_law_run", 8)]) (g := gName 8) (tt := tYes) rfl scRR.nd (Ow.pi_own (E := E0) C.gIt r1 C.sIt C.fnIt C.bIt (pv 4))
            (blkOk_by (own := [("_law_run", 8)]) (N := nRR) (sc := defScope sRowRight) (by decide +kernel)) (fun _ _ _ _ _ => pg_name (i := 8) scRR.nd rfl (Or.inl rfl)) (fun _ _ _ _ _ => pts_nil) (fun _ _ _ _ _ => pv 8))
            (pe_callTy call_list_of (by rfl) T.list (by decide +kernel) (pa_cons (pv 2) pa_nil)) (nomark _))
          (pw_or (pt_cmpR (op_neD hr.units) (pe_lc (own := [("_law_at", 9)]) (g := gName 9) (tt := tYes) rfl scRR.nd (pi_range1 rfl T.range (pa_cons (pe_callB call_len_seq (by rfl) T.len PySem.boot_len (pa_cons (pv 2) pa_nil)) pa_nil))
            (blkOk_by (own := [("_law_at", 9)]) (N := nRR) (sc := defScope sRowRight) (by decide +kernel)) (fun _ _ _ _ _ => pg_name (i := 9) scRR.nd rfl (Or.inl rfl)) (fun _ _ _ _ _ => pts_nil) (fun _ _ _ _ _ => Ow.pe_ixOwn C.gIx r3 C.sIx C.fIxI C.fnIx C.bIx pass0 (pv 4) (pv 9) (fun _ _ => rfl)))
            (pe_callTy call_list_of (by rfl) T.list (by decide +kernel) (pa_cons (pv 2) pa_nil)) (nomark _))
          (pw_or1 (pt_cmpR (Ow.ne_own C.gEq r2 C.ob C.sNe C.sEq C.fnEq C.bEq pass0) (pv 4) (pv 5) (nomark _)))))) (pss_one (ps_ret pe_bl)) pss_nil)
      (pss_cons (ps_if (PW.pt (pw_or (pt_cmpR op_ne (pe_meth0 (pv 4) C.W.clW C.mPl C.gPl r1 C.bPl .nil pass0) (pe_cmpR (op_eqD hr.units) (pe_lc (own := [("_law_sign", 6), ("_law_much", 7)]) (g := gTup K 2 (gCons (gName 6) (gCons (gName 7) gNil))) rfl scRR.nd (pi_tup (pv 2))
            (blkOk_by (own := [("_law_sign", 6), ("_law_much", 7)]) (N := nRR) (sc := defScope sRowRight) (by decide +kernel))
            (fun _ _ _ _ _ => pg_tup rfl (pgs_cons (pg_name (i := 6) scRR.nd rfl (Or.inl rfl)) (pgs_cons (pg_name (i := 7) scRR.nd rfl (Or.inl rfl)) pgs_nil))) (fun _ _ _ _ _ => pts_one (pt_cmpR op_lt (pv 7) pe_int (nomark _))) (fun _ _ _ _ _ => pv 7)) (pe_lst pa_nil) (nomark _)) (nomark _))
          (pw_or1 (pt_cmpR op_ne (pe_cmpR (Ow.eq_own C.gEq r1 C.nf C.sEq C.fnEq C.bEq pass0) (pv 4) (pe_make C.MK.mW C.MK.gWI r5 (by rfl) C.W.gW C.MK.bWI .nil pass0 (pa_cons (pv 1) (pa_cons (pv 3) pa_nil))) (nomark _)) (pe_cmpR (op_eqD hr.units) (pv 2) (pv 3) (nomark _)) (nomark _))))) (pss_one (ps_ret pe_bl)) pss_nil)
      (pss_cons (ps_if (pt_cmpR op_ne (pe_callTy (Ow.str_own C.gSt r3 C.sSt C.fnSt C.bSt pass0) (by rfl) T.str (by decide +kernel) (pa_cons (pv 4) pa_nil))
          (pe_op op_add_str (pe_op op_add_str (pe_op op_add_str pe_str (pe_callTy call_str_int (by rfl) T.str (by decide +kernel) (pa_cons (pe_callB call_len_seq (by rfl) T.len PySem.boot_len (pa_cons (pv 2) pa_nil)) pa_nil))) pe_str) (pv 1)) (nomark _)) (pss_one (ps_ret pe_bl)) pss_nil)
      (pss_one (ps_ret (pe_cmpR (op_eqD hr.units) (pe_lc (own := [("_law_value", 10)]) (g := gName 10) (tt := ttV K CW) rfl scRR.nd (pi_tup (pe_tup (pa_cons pe_non (pa_cons pe_int (pa_cons (pv 2) (pa_cons (pv 1) (pa_cons (pe_lst (pa_cons (pv 2) pa_nil)) pa_nil)))))))
          (blkOk_by (own := [("_law_value", 10)]) (N := nRR) (sc := defScope sRowRight) (by decide +kernel)) (fun _ _ _ _ _ => pg_name (i := 10) scRR.nd rfl (Or.inl rfl))
          (fun _ _ _ _ _ => pts_one (PW.pt (pw_or (pt_cmpR (Ow.eq_ownX C.gEqX r1 C.sEq C.fnEq C.bEq pass0) (pv 4) (pv 10) (nomark _)) (pw_or1 (pt_not (pt_cmpR (Ow.ne_ownX C.gEqX r2 C.ob C.sNe C.sEq C.fnEq C.bEq pass0) (pv 4) (pv 10) (nomark _))))))) (fun _ _ _ _ _ => pv 10)) (pe_lst pa_nil) (nomark _)))))))))), ?_⟩
    refine ⟨_, rfl, _, rfl, c, sg, 6, 9, rfl, hc, hsg, by decide, by decide, by decide, fun pr H1 l hc1 b1 hl hred hru hll => ?_⟩
    refine ⟨_, rfl, _, rfl, c, sg, 2, 2, rfl, hc1, hsg, by decide, by decide, by decide, fun po H2 k hc2 b2 hk hkred hkru hkl => ?_⟩
    refine ⟨_, _, rfl, ?_⟩
    have hl2 : TupRow K H2 pr l := hl.but hc1 b2
    refine ⟨_, rfl, _, rfl, ?_⟩
    intro a dxa nx1 nx2 nx3
    refine row_word2 C.MK hsg hl2 hru (by decide +kernel) (by omega) nx1 nx2 nx3 fun H3 s3 ha => ⟨rfl, ?_⟩
    rw [rowOf_red hred] at ha
    refine ⟨_, rfl, _, rfl, _, rfl, c, pr, sg, l, 6 * 10 ^ 31, rfl, hc2.same s3, hsg, hl2.same s3, hru, by omega, fun pp H4 l' hc4 b4 hp4 hru4 hl4 hr4 => ?_⟩
    intro a2 dxa2 nx4 nx5 nx6
    refine row_word2 C.MK hsg hp4 hru4 (by decide +kernel) (by omega) nx4 nx5 nx6 fun H5 s5 ha5 => ⟨rfl, ?_⟩
    rw [hr4, rowOf_red hred] at ha5
    refine ⟨by show 2 ≤ sizeLine; decide, fun pt npt => ?_⟩
    refine ⟨pt, _, rfl, SqT.of upd_same, rfl, _, _, rfl, _, _, rfl, rfl, ?_⟩
    have s6 := same_upd (o := .tup [.ref a, .ref a2]) npt
    have ha6 := ((ha.but (hc2.same s3) b4).same s5).same s6
    have hg6 := ha5.same s6
    have hl6 := (((hl2.same s3).but (hc2.same s3) b4).same s5).same s6
    have hk6 := (((hk.same s3).but (hc2.same s3) b4).same s5).same s6
    have hc6 := (hc4.same s5).same s6
    have b6 : But c H _ := ((b1.trans b2).trans (But.of s3)).trans (b4.trans (But.of (s5.trans s6)))
    generalize upd H5 pt (.tup [.ref a, .ref a2]) = H6 at s6 ha6 hg6 hl6 hk6 hc6 b6 ⊢
    have pl : Pl l := hru.pl (signs_plain hsg)
    have plk : Pl k := hkru.pl (signs_plain hsg)
    have nz : ∀ p ∈ l, p.2 ≠ 0 := fun p hp => red_nz hred p (List.mem_reverse.mpr hp)
    dsimp only
    show tSeq (tIfS _ _ _) _ _ [some (.ref c), some (.str sg), some (.ref pr), some (.ref po), some (.ref a), some (.ref a2), none, none, none, none, none] H6
    refine seq_if (H0 := H6) (ef_or ?_ (ef_or ?_ (ef_or ?_ ?_))) (Same.refl H6) fun H7 s7 => ?_
    · intro H s D q
      have h := ha6.same s
      obtain ⟨dx, p, hins, _⟩ := id h
      refine ⟨_, rfl, a, dx, _, rfl, hins, a, sg, l, rfl, h, _, rfl, rfl, _, rfl, ?_⟩
      rw [decide_eq_true rfl]
      exact q H (Same.refl H)
    · intro H s D q
      have h := ha6.same s
      obtain ⟨dx, p, hins, _⟩ := id h
      obtain ⟨ys2, hy2, hpp2⟩ := hl6.same s
      refine ⟨_, rfl, a, dx, _, rfl, hins, a, sg, l, rfl, h, fun p1 ⟨ys1, hy1, hpp1⟩ => ?_⟩
      refine ⟨_, rfl, .tuple (rowsD l), .tuple (rowsD l), .tup hy1 (rows_all hpp1), .tup hy2 (rows_all hpp2), shaped_row pl, shaped_row pl, _, rfl, ?_⟩
      rw [eqv_rowsT]
      exact q H (Same.refl H)
    · intro H s D q
      have h := ha6.same s
      obtain ⟨dx, p, hins, _⟩ := id h
      obtain ⟨ys2, hy2, hpp2⟩ := hl6.same s
      have hlen : ys2.length = l.length := hpp2.length
      refine ⟨_, rfl, a, dx, _, rfl, hins, a, sg, l, rfl, h, _, rfl, by omega, by omega, _, rfl, pr, ys2, rfl, .inr hy2, rfl, _, rfl, ?_⟩
      rw [hlen, decide_eq_true rfl]
      exact q H (Same.refl H)
    · intro H s D q
      have h := ha6.same s
      obtain ⟨dx, p, hins, _⟩ := id h
      refine ⟨_, rfl, a, dx, _, rfl, hins, a, sg, l, rfl, h, by omega, fun H1 s1 => ?_⟩
      obtain ⟨ys, hy, hpp⟩ := (hl6.same s).same s1
      have hlen : ys.length = l.length := hpp.length
      refine ⟨_, rfl, pr, rfl, ⟨_, hy⟩, fun D2 hD => ?_⟩
      refine lc_tup (xs := ys) (fun i H3 => Same H1 H3 ∧ H3 D2 = some (.lst (((l.take i).map fun p => absOf p.2).map V.int))) ⟨same_upd hD, upd_same⟩ (fun i H2 _ z => K4.SqT.of_row z.1 hy) ?_ ?_
      · rintro i x H2 hx ⟨s2, e2⟩
        obtain ⟨hi', t, rfl, et⟩ := pair_at hpp hx
        refine ⟨t, _, rfl, SqT.of (s2 _ _ et), rfl, _, _, rfl, _, _, rfl, rfl, rfl, iteT (B := False) ?_⟩
        refine ⟨_, rfl, _, rfl, _, e2, ?_, same_put s2 hD, ?_⟩
        · rw [List.length_map, List.length_map, List.length_take]
          exact Nat.lt_of_le_of_lt (show _ ≤ 200 by omega) (by decide)
        · rw [upd_same, List.take_add_one, List.getElem?_eq_getElem hi', List.map_append, List.map_append]
          rfl
      · rintro H2 ⟨s2, e2⟩
        rw [List.take_of_length_le (by omega)] at e2
        refine ⟨D2, _, rfl, SqL.of e2, rfl, _, rfl, ?_⟩
        rw [show decide (V.int (sizeL l) = V.int (l.map fun p => absOf p.2).sum) = true from decide_eq_true rfl]
        exact q H2 (s1.trans s2)
    have ha7 := ha6.same s7
    have hg7 := hg6.same s7
    have hl7 := hl6.same s7
    have hk7 := hk6.same s7
    refine seq_if (H0 := H7) (ef_or ?_ (ef_or ?_ ?_)) (Same.refl H7) fun H8 s8 => ?_
    · intro H s D q
      have h := ha7.same s
      obtain ⟨dx, p, hins, _⟩ := id h
      refine ⟨_, rfl, a, dx, _, rfl, hins, fun n => ⟨a, sg, l, rfl, h, fun pw it ys hy hpp n1 n2 => ⟨it, pw, rfl, n1, n2, ⟨_, hy⟩, rfl, fun D2 hD => ?_⟩⟩⟩
      have hlen : ys.length = l.length := hpp.length
      refine lc_tup (xs := ys) (fun i H3 => Same H H3 ∧ H3 D2 = some (.lst (ys.take i))) ⟨same_upd hD, upd_same⟩ (fun i H2 _ z => K4.SqT.of_row z.1 hy) ?_ ?_
      · rintro i x H2 hx ⟨s2, e2⟩
        refine ⟨rfl, iteT (B := False) ⟨_, rfl, _, e2, ?_, same_put s2 hD, ?_⟩⟩
        · rw [List.length_take]
          exact Nat.lt_of_le_of_lt (show _ ≤ 200 by omega) (by decide)
        · rw [upd_same, List.take_add_one, hx]
          rfl
      · rintro H2 ⟨s2, e2⟩
        rw [List.take_of_length_le (Nat.le_refl _)] at e2
        obtain ⟨ys2, hy2, hpp2⟩ := (hl7.same s).same s2
        refine ⟨_, rfl, pr, ys2, rfl, .inr hy2, fun p3 np3 => ?_⟩
        have s3 := same_upd (o := .lst ys2) np3
        refine ⟨.list (rowsD l), .list (rowsD l), .lst (SqL.of (s3 _ _ e2)) (rows_all (pairs_same (s2.trans s3) hpp)), .lst (SqL.of upd_same) (rows_all (pairs_same s3 hpp2)), shaped_rowL pl, shaped_rowL pl, _, rfl, ?_⟩
        rw [eqv_rowsL]
        exact q _ (s2.trans s3)
    · intro H s D q
      have h := ha7.same s
      obtain ⟨dx, p, hins, _⟩ := id h
      obtain ⟨ys, hy, hpp⟩ := hl7.same s
      have hlen : ys.length = l.length := hpp.length
      refine ⟨_, rfl, pr, ys, rfl, .inr hy, _, rfl, by omega, by omega, fun D2 hD => ?_⟩
      have en : (ys.length : Int).toNat = l.length := by omega
      rw [en]
      refine lc_range (lo := 0) (n := l.length) (fun i H3 => Same H H3 ∧ ∃ zs, H3 D2 = some (.lst zs) ∧ PairsAt H3 zs (l.take i)) ⟨same_upd hD, [], upd_same, .nil⟩ ?_ ?_
      · rintro i H2 hi ⟨s2, zs, e2, hzs⟩
        rw [Int.zero_add]
        have hzl : zs.length = (l.take i).length := hzs.length
        refine ⟨rfl, iteT (B := False) ?_⟩
        refine ⟨_, rfl, _, rfl, a, dx, _, rfl, s2 _ _ hins, a, sg, l, i, hi, rfl, h.same s2, by omega, fun t ht => ?_⟩
        refine ⟨zs, e2, ?_, same_put s2 hD, zs ++ [.ref t], upd_same, ?_⟩
        · rw [hzl, List.length_take]
          exact Nat.lt_of_le_of_lt (show _ ≤ 200 by omega) (by decide)
        · rw [List.take_add_one, List.getElem?_eq_getElem hi]
          exact each_app (PairsAt.put e2 hzs) (.cons ⟨t, rfl, by rw [upd_ne (fun z => by rw [z, e2] at ht; cases ht)]; exact ht⟩ .nil)
      · rintro H2 ⟨s2, zs, e2, hzs⟩
        rw [List.take_of_length_le (Nat.le_refl _)] at hzs
        obtain ⟨ys2, hy2, hpp2⟩ := (hl7.same s).same s2
        refine ⟨_, rfl, pr, ys2, rfl, .inr hy2, fun p3 np3 => ?_⟩
        have s3 := same_upd (o := .lst ys2) np3
        refine ⟨.list (rowsD l), .list (rowsD l), .lst (SqL.of (s3 _ _ e2)) (rows_all (pairs_same s3 hzs)), .lst (SqL.of upd_same) (rows_all (pairs_same s3 hpp2)), shaped_rowL pl, shaped_rowL pl, _, rfl, ?_⟩
        rw [eqv_rowsL]
        exact q _ (s2.trans s3)
    · intro H s D q
      have h := ha7.same s
      have h2 := hg7.same s
      obtain ⟨dx, p, hins, _⟩ := id h
      obtain ⟨dx2, p2, hins2, _⟩ := id h2
      refine ⟨_, rfl, _, rfl, a, a2, dx, dx2, _, _, rfl, rfl, hins, hins2, a, a2, sg, _, _, rfl, h, h2, pl, pl, _, rfl, _, rfl, ?_⟩
      rw [decide_eq_true rfl]
      exact q H (Same.refl H)
    have ha8 := ha7.same s8
    have hl8 := hl7.same s8
    have hk8 := hk7.same s8
    refine seq_if (H0 := H8) (ef_or ?_ ?_) (Same.refl H8) fun H9 s9 => ?_
    · intro H s D q
      have h := ha8.same s
      obtain ⟨dx, p, hins, _⟩ := id h
      refine ⟨_, rfl, a, dx, _, rfl, hins, rfl, a, sg, l, rfl, h, by omega, fun H1 s1 => ?_⟩
      obtain ⟨ys, hy, hpp⟩ := (hl8.same s).same s1
      have hlen : ys.length = l.length := hpp.length
      refine ⟨_, rfl, pr, rfl, ⟨_, hy⟩, fun D2 hD => ?_⟩
      refine lc_tup (xs := ys) (fun i H3 => Same H1 H3 ∧ H3 D2 = some (.lst ((((l.take i).filter fun p => decide (p.2 < 0)).map (·.2)).map V.int))) ⟨same_upd hD, upd_same⟩ (fun i H2 _ z => K4.SqT.of_row z.1 hy) ?_ ?_
      · rintro i x H2 hx ⟨s2, e2⟩
        obtain ⟨hi', t, rfl, et⟩ := pair_at hpp hx
        refine ⟨t, _, rfl, SqT.of (s2 _ _ et), rfl, _, _, rfl, _, _, rfl, rfl, rfl, ?_⟩
        refine ⟨_, rfl, _, _, rfl, rfl, _, rfl, ?_⟩
        have ef : (l.take (i + 1)).filter (fun p => decide (p.2 < 0)) = (l.take i).filter (fun p => decide (p.2 < 0)) ++ (if l[i].2 < 0 then [l[i]] else []) := by
          rw [List.take_add_one, List.getElem?_eq_getElem hi', List.filter_append]
          congr 1
          by_cases hh : l[i].2 < 0 <;> simp [List.filter, hh]
        have lf := List.length_filter_le (fun p : Str × Int => decide (p.2 < 0)) (l.take i)
        rw [List.length_take] at lf
        by_cases hn : l[i].2 < 0
        · rw [decide_eq_true hn]
          refine iteT ⟨_, rfl, _, e2, ?_, same_put s2 hD, ?_⟩
          · rw [List.length_map, List.length_map]
            exact Nat.lt_of_le_of_lt (show _ ≤ 200 by omega) (by decide)
          · rw [upd_same, ef, if_pos hn, List.map_append, List.map_append]
            rfl
        · rw [decide_eq_false hn]
          refine iteF ⟨s2, ?_⟩
          rw [ef, if_neg hn, List.append_nil]
          exact e2
      · rintro H2 ⟨s2, e2⟩
        rw [List.take_of_length_le (by omega)] at e2
        refine ⟨Nat.zero_le _, fun p3 np3 => ?_⟩
        have s3 := same_upd (o := .lst []) np3
        refine ⟨.list (intsD _), .list (intsD []), .lst (SqL.of (s3 _ _ e2)) (ints_all K _ _), .lst (SqL.of upd_same) (ints_all K _ []), shaped_ints _, shaped_ints [], rfl, _, rfl, ?_⟩
        rw [eqv_ints, plain_negs l nz, decide_eq_true rfl]
        exact q _ ((s1.trans s2).trans s3)
    · intro H s D q
      have h := ha8.same s
      refine ⟨_, rfl, _, rfl, _, rfl, ?_⟩
      intro a3 dx3 n1 n2 n3
      refine row_word2 C.MK hsg (hk8.same s) hkru (by decide +kernel) (by omega) n1 n2 n3 fun H1 s1 h3 => ⟨rfl, ?_⟩
      rw [rowOf_red hkred] at h3
      have h1 := h.same s1
      obtain ⟨dxa, p, hins, _⟩ := id h1
      obtain ⟨dx2, p2, hins2, _⟩ := id h3
      obtain ⟨ys, hy, hpp⟩ := (hl8.same s).same s1
      obtain ⟨ys2, hy2, hpp2⟩ := (hk8.same s).same s1
      refine ⟨a, a3, dxa, dx2, _, _, rfl, rfl, hins, hins2, a, a3, sg, _, _, rfl, h1, h3, pl, plk, ?_⟩
      refine ⟨_, rfl, _, rfl, .tuple (rowsD l), .tuple (rowsD k), .tup hy (rows_all hpp), .tup hy2 (rows_all hpp2), shaped_row pl, shaped_row plk, rfl, _, rfl, ?_⟩
      rw [show PyData.eqv (.tuple (rowsD l)) (.tuple (rowsD k)) = decide (l = k) from eqv_rows l k, decide_eq_true rfl]
      exact q H1 s1
    have ha9 := ha8.same s9
    have hl9 := hl8.same s9
    refine seq_if (H0 := H9) ?_ (Same.refl H9) fun H10 s10 => ?_
    · intro H s D q
      have h := ha9.same s
      obtain ⟨dx, p, hins, _⟩ := id h
      obtain ⟨ys, hy, hpp⟩ := hl9.same s
      have hlen : ys.length = l.length := hpp.length
      have st := small_text l.length (by omega)
      have sl := (sg_facts hsg).1
      have l1 : ("word of " : Str).length = 8 := by decide +kernel
      have l2 : (" runs over " : Str).length = 11 := by decide +kernel
      have sml : ∀ {n : Nat}, n ≤ 100 → n ≤ sizeLine := fun h => Nat.le_trans h (by decide)
      refine ⟨_, rfl, a, dx, _, rfl, hins, a, sg, l, rfl, h, hsg, by omega, _, rfl, ?_⟩
      refine ⟨_, rfl, pr, ys, rfl, .inr hy, _, rfl, by rw [hlen]; exact st.2, _, _, rfl, rfl, by rw [hlen, l1]; exact sml (by omega), _, _, rfl, rfl, by rw [hlen, str_len, l1, l2]; exact sml (by omega), _, rfl, _, _, rfl, rfl, by rw [hlen, str_len, str_len, l1, l2]; exact sml (by omega), rfl, _, rfl, ?_⟩
      rw [hlen, show decide (V.str (toldS l.length sg) = V.str ((("word of " : Str) ++ ((toString (l.length : Int) : String) : Str) ++ (" runs over " : Str)) ++ sg)) = true from decide_eq_true rfl]
      exact q H (Same.refl H)
    have ha10 := ha9.same s10
    have hl10 := hl9.same s10
    have s610 := ((s7.trans s8).trans s9).trans s10
    refine ⟨_, rfl, _, rfl, _, rfl, by show 1 ≤ sizeLine; decide, fun L nL => ⟨by show 5 ≤ sizeLine; decide, fun pt2 npt2 => ?_⟩⟩
    have sL := same_upd (o := .lst [.ref pr]) nL
    have eL : (upd H10 L (.lst [.ref pr])) L = some (.lst [.ref pr]) := upd_same
    generalize upd H10 L (.lst [.ref pr]) = H11 at sL eL npt2 ⊢
    have sP := same_upd (o := .tup [.non, .int 0, .ref pr, .str sg, .ref L]) npt2
    have eP : (upd H11 pt2 (.tup [.non, .int 0, .ref pr, .str sg, .ref L])) pt2 = some (.tup [.non, .int 0, .ref pr, .str sg, .ref L]) := upd_same
    generalize upd H11 pt2 (.tup [.non, .int 0, .ref pr, .str sg, .ref L]) = H12 at sP eP ⊢
    have ha12 := (ha10.same sL).same sP
    obtain ⟨ys, hy, hpp⟩ := (hl10.same sL).same sP
    have eL12 := sP _ _ eL
    have tys : ∀ x ∈ [V.non, .int 0, .ref pr, .str sg, .ref L], ∀ H', Same H12 H' → ∃ t, TyX K H' x t ∧ PySem.W.notFirst K CW t = true ∧ PySem.W.kitOne K t (.ref CW) = some false := by
      intro x hx H' s'
      rcases List.mem_cons.mp hx with rfl | hx
      · exact ⟨_, .base .non, O1.n, O1.k⟩
      rcases List.mem_cons.mp hx with rfl | hx
      · exact ⟨_, .base (.int 0), O2.n, O2.k⟩
      rcases List.mem_cons.mp hx with rfl | hx
      · exact ⟨_, ty_tupT (K4.SqT.of_row s' hy), O3.n, O3.k⟩
      rcases List.mem_cons.mp hx with rfl | hx
      · exact ⟨_, .base (.str sg), O4.n, O4.k⟩
      rcases List.mem_cons.mp hx with rfl | hx
      · exact ⟨_, .base (.lst (s' _ _ eL12)), O5.n, O5.k⟩
      cases hx
    refine ⟨pt2, rfl, ⟨_, SqT.of eP⟩, fun D2 hD => ?_⟩
    refine lc_tup (xs := [.non, .int 0, .ref pr, .str sg, .ref L]) (fun i H3 => Same H12 H3 ∧ H3 D2 = some (.lst [])) ⟨same_upd hD, upd_same⟩ (fun i H3 _ z => SqT.of (z.1 _ _ eP)) ?_ ?_
    · rintro i x H3 hx ⟨s3, e3⟩
      obtain ⟨t, ty, tn, tk⟩ := tys x (List.mem_of_getElem? hx) H3 s3
      have h := ha12.same s3
      obtain ⟨dx, p, hins, _⟩ := id h
      refine ⟨rfl, ?_⟩
      refine ⟨_, rfl, _, rfl, a, dx, _, t, rfl, hins, ty, tn, a, sg, l, x, t, rfl, h, ty, tk, _, rfl, iteF ?_⟩
      refine ⟨_, rfl, _, rfl, a, dx, _, t, rfl, hins, ty, tn, a, sg, l, x, t, rfl, h, ty, tk, _, rfl, _, rfl, ?_⟩
      exact iteF ⟨s3, e3⟩
    · rintro H3 ⟨s3, e3⟩
      refine ⟨Nat.zero_le _, fun p3 np3 => ?_⟩
      have s4 := same_upd (o := .lst []) np3
      refine ⟨.list (intsD []), .list (intsD []), .lst (SqL.of (s4 _ _ e3)) (ints_all K _ []), .lst (SqL.of upd_same) (ints_all K _ []), shaped_ints [], shaped_ints [], ?_⟩
      rw [eqv_ints, decide_eq_true rfl]
      have sAll := (((s610.trans sL).trans sP).trans s3).trans s4
      exact q _ (b6.trans (But.of sAll)) (hc6.same sAll)
end
end K4

set_option Elab.async false
set_option linter.all false
set_option maxRecDepth 100000
set_option maxHeartbeats 6400000
namespace K4
open PySem L2 Tx Tg Tm
section
variable (K : PySem.W.Frag)
def EvD (t : TE) (σ : L2.St) (H0 : Hp) (d : PyData) : Prop := ∀ H, Same H0 H → ∀ Q : VK, (∀ v H', Same H H' → (∀ H'', Same H' H'' → Dp K H'' v d) → Q v H') → t σ H Q
def EvDs (t : TA) (σ : L2.St) (H0 : Hp) (ds : List PyData) : Prop := ∀ H, Same H0 H → ∀ Q : List V → Hp → Prop, (∀ xs H', Same H H' → (∀ H'', Same H' H'' → DpAll K H'' xs ds) → Q xs H') → t σ H Q
end
theorem dpAll_len {K : PySem.W.Frag} {H : Hp} : ∀ {xs : List V} {ds : List PyData}, DpAll K H xs ds → xs.length = ds.length
  | _, _, .nil => rfl
  | _, _, .cons _ h => congrArg (· + 1) (dpAll_len h)
section
variable {P : Program} {w : World} {mg : Str → Option Value} {base : Heap} {K : PySem.W.Frag} {CW : Addr} {sg : Str} {σ : L2.St} {H0 H : Hp} {n : Nat} {t t1 t2 tn : TE} {m : Int} {l : Row} {ta : TA} {d : PyData} {ds : List PyData} {i : Nat} {a : Addr}
theorem ed_str (z : Str) : EvD K (tC (.str z)) σ H0 (.str z) := fun H s Q q => q _ H (Same.refl H) fun _ _ => .str z
theorem ed_int (m : Int) : EvD K (tC (.int m)) σ H0 (.int m) := fun H s Q q => q _ H (Same.refl H) fun _ _ => .int m
theorem ed_bl (b : Bool) : EvD K (tC (.bl b)) σ H0 (.bool b) := fun H s Q q => q _ H (Same.refl H) fun _ _ => .bl b
theorem ed_neg (m : Int) : EvD K (tUn (rU fun i => V.int (-i)) (tC (.int m))) σ H0 (.int (-m)) := fun H s Q q => ⟨_, rfl, q _ H (Same.refl H) fun _ _ => .int _⟩
theorem ed_nil : EvDs K tNil σ H0 [] := fun H s Q q => q [] H (Same.refl H) fun _ _ => .nil
theorem ed_cons (e1 : EvD K t1 σ H0 d) (e2 : EvDs K ta σ H0 ds) : EvDs K (tCons t1 ta) σ H0 (d :: ds) := fun H s Q q => e1 H s _ fun v H1 s1 h1 => e2 H1 (s.trans s1) _ fun xs H2 s2 h2 => q _ H2 (s1.trans s2) fun H3 s3 => .cons (h1 H3 (s2.trans s3)) (h2 H3 s3)
theorem ed_tup (e : EvDs K ta σ H0 ds) (hl : ds.length ≤ 10) : EvD K (tTup ta) σ H0 (.tuple ds) := fun H s Q q => e H s _ fun xs H1 s1 h1 =>
  ⟨by rw [dpAll_len (h1 H1 (Same.refl H1))]; exact Nat.le_trans hl (by decide), fun p np => q _ _ (s1.trans (same_upd np)) fun H2 s2 => .tup (SqT.of (s2 _ _ upd_same)) (h1 H2 ((same_upd np).trans s2))⟩
theorem ed_lst (e : EvDs K ta σ H0 ds) (hl : ds.length ≤ 10) : EvD K (tLst ta) σ H0 (.list ds) := fun H s Q q => e H s _ fun xs H1 s1 h1 =>
  ⟨by rw [dpAll_len (h1 H1 (Same.refl H1))]; exact Nat.le_trans hl (by decide), fun p np => q _ _ (s1.trans (same_upd np)) fun H2 s2 => .lst (SqL.of (s2 _ _ upd_same)) (h1 H2 ((same_upd np).trans s2))⟩
theorem seq_asgD {i : Nat} {u : TS} {D : Ends} (e : EvD K t σ H0 d) (s : Same H0 H) (q : ∀ v H2, Same H H2 → (∀ H3, Same H2 H3 → Dp K H3 v d) → u D (σ.set i (some v)) H2) : tSeq (tAsg t (gName i)) u D σ H := e H s _ fun v H1 s1 h1 => q v H1 s1 h1
theorem ed_var {i : Nat} {v : V} (hi : σ[i]? = some (some v)) (hv : ∀ H3, Same H0 H3 → Dp K H3 v d) : EvD K (tVar i) σ H0 d := fun H s Q q => ⟨_, hi, q v H (Same.refl H) fun H2 s2 => hv H2 (s.trans s2)⟩
theorem ret_and {t3 t4 : TE} {d2 : PyData} {D : Ends} (s : Same H0 H) (e1 : EvD K t1 σ H0 d) (e2 : EvD K t2 σ H0 d) (e3 : EvD K t3 σ H0 d2) (e4 : EvD K t4 σ H0 d2) (h1 : SeqAt.shaped d = true) (h2 : PyData.eqv d d = true) (h3 : SeqAt.shaped d2 = true) (h4 : PyData.eqv d2 d2 = true)
    (q : ∀ H', D.rt (.bl true) H') : tRet (tAndV (tOp (rEqD K) t1 t2) (tOp (rEqD K) t3 t4)) D σ H := by
  refine e1 H s _ fun v1 H1 s1 hv1 => e2 H1 (s.trans s1) _ fun v2 H2 s2 hv2 => ?_
  refine ⟨d, d, hv1 _ s2, hv2 _ (Same.refl _), h1, h1, true, by rw [h2], ?_⟩
  refine iteT ?_
  refine e3 H2 ((s.trans s1).trans s2) _ fun v3 H3 s3 hv3 => e4 H3 (((s.trans s1).trans s2).trans s3) _ fun v4 H4 s4 hv4 => ?_
  refine ⟨d2, d2, hv3 _ s4, hv4 _ (Same.refl _), h3, h3, ?_⟩
  rw [h4]
  exact q H4
theorem ed_runs (hi : σ[i]? = some (some (.ref a))) (hw : WordAt K CW H0 a sg l) : EvD K (tProp CW (spRuns K CW) [] E0 (tVar i)) σ H0 (.tuple (rowsD l)) := fun H s Q q => by
  have h := hw.same s
  obtain ⟨dx, p, hins, _⟩ := id h
  exact ⟨_, hi, a, dx, _, rfl, hins, a, sg, l, rfl, h, fun p ⟨ys, hy, hpp⟩ => q _ H (Same.refl H) fun H'' s'' => .tup (K4.SqT.of_row s'' hy) (rows_all (pairs_same s'' hpp))⟩
theorem ed_size (hi : σ[i]? = some (some (.ref a))) (hw : WordAt K CW H0 a sg l) (hl : l.length ≤ 200) : EvD K (tProp CW (spSize K CW) [] E0 (tVar i)) σ H0 (.int (sizeL l)) := fun H s Q q => by
  have h := hw.same s
  obtain ⟨dx, p, hins, _⟩ := id h
  exact ⟨_, hi, a, dx, _, rfl, hins, a, sg, l, rfl, h, hl, fun H1 s1 => q _ H1 s1 fun _ _ => .int _⟩
theorem ed_plain (hi : σ[i]? = some (some (.ref a))) (hw : WordAt K CW H0 a sg l) (hl : l.length ≤ 200) : EvD K (tMeth CW "is_plain" (spPlain K CW) [] E0 (tVar i) tNil) σ H0 (.bool (l.all fun p => decide (p.2 > 0))) := fun H s Q q => by
  have h := hw.same s
  obtain ⟨dx, p, hins, _⟩ := id h
  exact ⟨_, hi, a, dx, _, rfl, hins, rfl, a, sg, l, rfl, h, hl, fun H1 s1 => q _ H1 s1 fun _ _ => .bl _⟩
theorem ed_strw (hi : σ[i]? = some (some (.ref a))) (hw : WordAt K CW H0 a sg l) (hsg : Signs sg) (hl : l.length ≤ 200) : EvD K (tCB (Ow.rStrOwn CW (spStr K CW) E0) (tCons (tVar i) tNil)) σ H0 (.str (toldS l.length sg)) := fun H s Q q => by
  have h := hw.same s
  obtain ⟨dx, p, hins, _⟩ := id h
  exact ⟨_, hi, a, dx, _, rfl, hins, a, sg, l, rfl, h, hsg, hl, _, rfl, q _ H (Same.refl H) fun _ _ => .str _⟩
end
abbrev rS : Row := [(("a" : Str), (1 : Int)), (("b" : Str), (1 : Int)), (("a" : Str), (-1 : Int)), (("b" : Str), (-1 : Int))]
abbrev rT : Row := [(("a" : Str), (1 : Int)), (("b" : Str), (-1 : Int)), (("a" : Str), (1 : Int))]
theorem rowS : rowZ "abAB" = rS := by decide +kernel
theorem rowT : rowZ "abBBa" = rT := by decide +kernel
theorem rowN : rowOf [(("a" : Str), (2 : Int)), (("b" : Str), (0 : Int)), (("a" : Str), (-2 : Int))] = [] := by decide +kernel
theorem shT : shortT rT = "aBa" := by decide +kernel
theorem sgS : Sgd "ab" "abAB" := by unfold Sgd Vc; decide +kernel
theorem sgT : Sgd "ab" "abBBa" := by unfold Sgd Vc; decide +kernel
theorem toldN : toldS 0 "ab" = "word of 0 runs over ab" := by decide +kernel
theorem one_ab : one 97 = ("a" : Str) ∧ one 98 = ("b" : Str) ∧ 97 ∈ cds ("ab" : Str) ∧ 98 ∈ cds ("ab" : Str) := by decide +kernel
theorem ruN : Ru "ab" 2 [(("a" : Str), (2 : Int)), (("b" : Str), (0 : Int)), (("a" : Str), (-2 : Int))] := fun p hp => by
  obtain ⟨h1, h2, h3, h4⟩ := one_ab
  rcases List.mem_cons.mp hp with rfl | hp
  · exact ⟨⟨97, h3, h1.symm⟩, by decide⟩
  rcases List.mem_cons.mp hp with rfl | hp
  · exact ⟨⟨98, h4, h2.symm⟩, by decide⟩
  rcases List.mem_cons.mp hp with rfl | hp
  · exact ⟨⟨97, h3, h1.symm⟩, by decide⟩
  cases hp
abbrev dTold : List PyData := [.tuple (rowsD rS), .str "aBa", .tuple (rowsD []), .int 4, .bool false, .bool true, .str "word of 0 runs over ab"]
theorem told_sh : SeqAt.shaped (.list dTold) = true := by decide +kernel
theorem told_eq : PyData.eqv (.list dTold) (.list dTold) = true := by decide +kernel
abbrev dLim : List PyData := [.int 200, .int 400]
theorem lim_sh : SeqAt.shaped (.list dLim) = true := by decide +kernel
theorem lim_eq : PyData.eqv (.list dLim) (.list dLim) = true := by decide +kernel
abbrev nLaw : List Str := ["_law_script", "_law_at", "_law_cup_here", "_law_signs_here", "_law_swap", "_law_none", "_law_told", "_law_due"]
def spLaw (K : PySem.W.Frag) : Sp := fun vs H Q _ => ∃ (a : Addr) (ns : List Int), vs = [.ref a] ∧ SqL K H a (ns.map V.int) ∧ ns.length ≤ 63 ∧ ∀ H', Q (.bl true) H'
theorem scLaw : FnScope nLaw ["_law_script"] (defScope sLaw) := ⟨rfl, rfl, rfl, by decide +kernel, rfl, by decide +kernel, by decide +kernel⟩
theorem rT_red : Wm.Red rT.reverse := by rw [← rowT]; exact rowZ_red _
section
variable {P : Program} {w : World} {K : PySem.W.Frag} {mg : Str → Option Value} {base : Heap}
theorem edS {CM CW : Addr} {σ : L2.St} {H0 : Hp} (C : Cl3 P w K mg base CM CW) (sab : Signs "ab") : EvD K (tMeth CW "shortest" (spShort K CW) [] E0 (ClX.tCMeth CW (spOf K CW) E0 (tC (.ref CW)) (tCons (tC (.str "ab")) (tCons (tC (.str "abBBa")) tNil))) tNil) σ H0 (.str "aBa") := fun H s Q q => by
  refine ⟨rfl, "ab", "abBBa", rfl, sab, sgT, by decide +kernel, fun x H1 s1 hx => ?_⟩
  have ru := rowZ_ru sab sgT (show ("abBBa" : Str).length ≤ 100 by decide +kernel)
  rw [rowT] at hx ru
  obtain ⟨dx, p, hins, _⟩ := id hx
  refine ⟨x, dx, _, rfl, hins, rfl, x, "ab", rT, rfl, hx, sab, fun p hp => ⟨(ru p hp).1, red_nz rT_red p (List.mem_reverse.mpr hp)⟩, fun p hp => (ru p hp).2, by decide, by decide +kernel, fun H2 s2 => ?_⟩
  rw [shT]
  exact q _ H2 (s1.trans s2) fun _ _ => .str _
theorem ok_law {CM CW f fC fS fT fR : Addr} {fd dC dS dT dR : FuncData} (F : Fun K "law" "law" sLaw f fd) (T : Txt K mg) (C : Cl3 P w K mg base CM CW)
    (DC : Df K mg "_law_cup" sCup ["_law_script", "_law_at"] fC dC) (DS : Df K mg "_law_signs" sSigns ["_law_cup_here"] fS dS) (DT : Df K mg "_law_text_right" sTextRight ["_law_cup_here", "_law_signs_here"] fT dT) (DR : Df K mg "_law_row_right" sRowRight ["_law_cup_here", "_law_signs_here"] fR dR)
    (GC : FnOk P w K mg base CX0 1 fC dC ["_law_script", "_law_at"] (spCup K)) (GS : FnOk P w K mg base CX0 3 fS dS ["_law_cup_here"] spSigns) (GT : FnOk P w K mg base CX0 7 fT dT ["_law_cup_here", "_law_signs_here"] spTR) (GR : FnOk P w K mg base CX0 7 fR dR ["_law_cup_here", "_law_signs_here"] spTR) :
    Kept P w K mg base CX0 8 f fd ["_law_script"] (spLaw K) := by
  refine Kept.fn F scLaw (fun vs H Q E h => ?_) (fun cdv A outer s H vs Q E hr still h => ?_)
  · obtain ⟨a, ns, rfl, _⟩ := h
    rfl
  · obtain ⟨a, ns, rfl, hS, hlen, q⟩ := h
    have r1 : Room 1 _ := hr.mono (by decide)
    have r2 : Room 2 _ := hr.mono (by decide)
    have r3 : Room 3 _ := hr.mono (by decide)
    have r5 : Room 5 _ := hr.mono (by decide)
    have r6 : Room 6 _ := hr.mono (by decide)
    obtain ⟨tR, gR⟩ := T.mRuns
    obtain ⟨tP, gP⟩ := T.mPow
    refine ⟨_, (pss_cons (ps_for PassesOwn.never rfl (pi_range1 rfl T.range (pa_cons (pe_callB (call_max2 rfl) (by rfl) T.max (by decide +kernel) (pa_cons pe_int (pa_cons (pe_callB (call_min2 rfl) (by rfl) T.min (by decide +kernel) (pa_cons pe_int (pa_cons
          (pe_callB call_len (by rfl) T.len PySem.boot_len (pa_cons (pv 0) pa_nil)) pa_nil))) pa_nil))) pa_nil)) (pg_name (i := 1) scLaw.nd rfl (Or.inl rfl))
        (pss_cons (ps_set (i := 2) scLaw.nd rfl (Or.inl rfl) (pe_call GC r1 (by rfl) DC.m DC.F.kp DC.b .nil pass0 (pa_cons (pv 0) (pa_cons (pv 1) pa_nil))))
        (pss_cons (ps_set (i := 3) scLaw.nd rfl (Or.inl rfl) (pe_call GS r3 (by rfl) DS.m DS.F.kp DS.b .nil pass0 (pa_cons (pv 2) pa_nil)))
        (pss_one (ps_if (PW.pt (pw_or (pt_not (pt_val (pe_call GT hr (by rfl) DT.m DT.F.kp DT.b .nil pass0 (pa_cons (pv 2) (pa_cons (pv 3) pa_nil))))) (pw_or (pt_not (pt_val (pe_call GT hr (by rfl) DT.m DT.F.kp DT.b .nil pass0 (pa_cons (pv 2) (pa_cons (pv 3) pa_nil)))))
          (pw_or1 (pt_not (pt_val (pe_call GR hr (by rfl) DR.m DR.F.kp DR.b .nil pass0 (pa_cons (pv 2) (pa_cons (pv 3) pa_nil))))))))) (pss_one (ps_ret pe_bl)) pss_nil)))))
      (pss_cons (ps_par (i := 4) (j := 5) (by rfl) scLaw.nd rfl rfl (by decide) rfl rfl (pa_cons (ClX.pe_cmeth (pe_glob (v := .ref CW) (by rfl) C.W.gW rfl) C.rd C.cm C.gOf r6 pass0 (pa_cons pe_str (pa_cons pe_str pa_nil)))
          (pa_cons (pe_make C.MK.mW C.MK.gWI r5 (by rfl) C.W.gW C.MK.bWI .nil pass0 (pa_cons pe_str (pa_cons (pe_tup (pa_cons (pe_tup (pa_cons pe_str (pa_cons pe_int pa_nil))) (pa_cons (pe_tup (pa_cons pe_str (pa_cons pe_int pa_nil))) (pa_cons (pe_tup (pa_cons pe_str (pa_cons (pe_un un_neg pe_int) pa_nil))) pa_nil)))) pa_nil))) pa_nil)) (by rfl))
      (pss_cons (ps_set (i := 6) scLaw.nd rfl (Or.inl rfl) (pe_lst (pa_cons (pe_prop (pv 4) C.W.clW C.pRu C.gRu r2 C.bRu .nil pass0 rfl)
          (pa_cons (pe_meth0 (ClX.pe_cmeth (pe_glob (v := .ref CW) (by rfl) C.W.gW rfl) C.rd C.cm C.gOf r6 pass0 (pa_cons pe_str (pa_cons pe_str pa_nil))) C.W.clW C.mSh C.gSh r3 C.bSh .nil pass0)
          (pa_cons (pe_prop (pv 5) C.W.clW C.pRu C.gRu r2 C.bRu .nil pass0 rfl) (pa_cons (pe_prop (pv 4) C.W.clW C.pSi C.gSi r2 C.bSi .nil pass0 rfl)
          (pa_cons (pe_meth0 (pv 4) C.W.clW C.mPl C.gPl r1 C.bPl .nil pass0) (pa_cons (pe_meth0 (pv 5) C.W.clW C.mPl C.gPl r1 C.bPl .nil pass0)
          (pa_cons (pe_callTy (Ow.str_own C.gSt r3 C.sSt C.fnSt C.bSt pass0) (by rfl) T.str (by decide +kernel) (pa_cons (pv 5) pa_nil)) pa_nil)))))))))
      (pss_cons (ps_set (i := 7) scLaw.nd rfl (Or.inl rfl) (pe_lst (pa_cons (pe_tup (pa_cons (pe_tup (pa_cons pe_str (pa_cons pe_int pa_nil))) (pa_cons (pe_tup (pa_cons pe_str (pa_cons pe_int pa_nil))) (pa_cons (pe_tup (pa_cons pe_str (pa_cons (pe_un un_neg pe_int) pa_nil))) (pa_cons (pe_tup (pa_cons pe_str (pa_cons (pe_un un_neg pe_int) pa_nil))) pa_nil)))))
          (pa_cons pe_str (pa_cons (pe_tup pa_nil) (pa_cons pe_int (pa_cons pe_bl (pa_cons pe_bl (pa_cons pe_str pa_nil)))))))))
      (pss_one (ps_ret (pe_and (pe_cmpR (op_eqD hr.units) (pv 6) (pv 7) (nomark _)) (pe_one (pe_cmpR (op_eqD hr.units) (pe_lst (pa_cons (pe_glob (v := .int 200) (by rfl) gR ⟨_, rfl⟩) (pa_cons (pe_glob (v := .int 400) (by rfl) gP ⟨_, rfl⟩) pa_nil))) (pe_lst (pa_cons pe_int (pa_cons pe_int pa_nil))) (nomark _)))))))))), ?_⟩
    have bj : ∀ n : Int, 0 ≤ n → n ≤ 63 → (-(2 ^ 62) ≤ (if (if n < 2 then n else 2) > 1 then (if n < 2 then n else 2) else 1) ∧ (if (if n < 2 then n else 2) > 1 then (if n < 2 then n else 2) else 1) < 2 ^ 62) ∧ (if (if n < 2 then n else 2) > 1 then (if n < 2 then n else 2) else (1 : Int)).toNat ≤ 2 := by
      intro n h0 h1
      repeat' split
      all_goals omega
    obtain ⟨⟨bj1, bj2⟩, bj3⟩ := bj ns.length (by omega) (by omega)
    refine ⟨_, rfl, _, ns.length, rfl, .inl ⟨_, hS, by rw [List.length_map]⟩, _, _, rfl, _, _, rfl, _, rfl, bj1, bj2, for_range (n := _) (fun i σ H1 => ∃ u1 u2 u3 : Option V, σ = [some (.ref a), u1, u2, u3, none, none, none, none] ∧ Same H H1)
      ⟨none, none, none, rfl, Same.refl H⟩ ?_ ?_⟩
    · rintro k σ H1 hk ⟨u1, u2, u3, rfl, s1⟩
      have hk3 : k < 2 := Nat.lt_of_lt_of_le hk bj3
      refine ⟨_, rfl, _, rfl, a, ns, k, congrArg (fun z => [V.ref a, V.int z]) (Int.zero_add _), s1.seq hS, hlen, by omega, fun c H2 nc s2 hc2 => ?_⟩
      have nc0 : H c = none := free_none s1 nc
      refine ⟨_, rfl, c, rfl, hc2, fun sg H3 hsg hc3 b3 => ?_⟩
      refine ⟨_, rfl, _, rfl, c, sg, rfl, hc3, hsg, fun H4 b4 hc4 => ⟨_, rfl, iteF ?_⟩⟩
      refine ⟨_, rfl, _, rfl, c, sg, rfl, hc4, hsg, fun H5 b5 hc5 => ⟨_, rfl, iteF ?_⟩⟩
      refine ⟨_, rfl, _, rfl, c, sg, rfl, hc5, hsg, fun H6 b6 hc6 => ⟨_, rfl, iteF ?_⟩⟩
      refine ⟨_, _, _, rfl, fun b o e => ?_⟩
      have nb := ne_of_none e nc0
      exact b6 _ _ nb (b5 _ _ nb (b4 _ _ nb (b3 _ _ nb (s2 _ _ (s1 _ _ e)))))
    · rintro σ H1 ⟨u1, u2, u3, rfl, s1⟩
      have sab : Signs "ab" := .inl rfl
      refine ⟨rfl, "ab", "abAB", rfl, sab, sgS, by decide +kernel, fun x H2 s2 hx => ?_⟩
      rw [rowS] at hx
      refine ⟨by show 2 ≤ sizeLine; decide, fun t1 n1 => ⟨by show 2 ≤ sizeLine; decide, fun t2 n2 => ⟨_, rfl, by show 2 ≤ sizeLine; decide, fun t3 n3 => ⟨by show 3 ≤ sizeLine; decide, fun tt nt => ?_⟩⟩⟩⟩
      have k4 := same_upd (o := .tup [.ref t1, .ref t2, .ref t3]) nt
      have k3 := (same_upd (o := .tup [.str "a", .int (-2)]) n3).trans k4
      have k2 := (same_upd (o := .tup [.str "b", .int 0]) n2).trans k3
      have k1 := (same_upd (o := .tup [.str "a", .int 2]) n1).trans k2
      have f1 := k2 _ _ upd_same
      have f2 := k3 _ _ upd_same
      have f3 := k4 _ _ upd_same
      have hrow : TupRow K _ tt [(("a" : Str), (2 : Int)), (("b" : Str), (0 : Int)), (("a" : Str), (-2 : Int))] := .new upd_same (.cons ⟨t1, rfl, f1⟩ (.cons ⟨t2, rfl, f2⟩ (.cons ⟨t3, rfl, f3⟩ .nil)))
      have hx3 := hx.same k1
      intro y dy m1 m2 m3
      refine row_word2 C.MK sab hrow ruN (by decide +kernel) (by decide) m1 m2 m3 fun H4 s4 hy => ⟨rfl, ?_⟩
      rw [rowN] at hy
      have hx4 := hx3.same s4
      refine ⟨_, _, rfl, ?_⟩
      dsimp only
      show tSeq (tAsg _ _) _ _ [some (.ref a), u1, u2, u3, some (.ref x), some (.ref y), none, none] H4
      have E1 := ed_lst (K := K) (σ := [some (.ref a), u1, u2, u3, some (.ref x), some (.ref y), none, none]) (H0 := H4) (ed_cons (ed_runs (CW := CW) (i := 4) rfl hx4) (ed_cons (edS C sab) (ed_cons (ed_runs (CW := CW) (i := 5) rfl hy) (ed_cons (ed_size (CW := CW) (i := 4) rfl hx4 (by decide)) (ed_cons (ed_plain (CW := CW) (i := 4) rfl hx4 (by decide)) (ed_cons (ed_plain (CW := CW) (i := 5) rfl hy (by decide)) (ed_cons (ed_strw (CW := CW) (i := 5) rfl hy sab (by decide)) ed_nil))))))) (by decide)
      rw [show [PyData.tuple (rowsD rS), .str "aBa", .tuple (rowsD []), .int (sizeL rS), .bool (rS.all fun p => decide (p.2 > 0)), .bool (([] : Row).all fun p => decide (p.2 > 0)), .str (toldS ([] : Row).length "ab")] = dTold from by
        rw [show sizeL rS = 4 by decide +kernel, show (rS.all fun p => decide (p.2 > 0)) = false by decide +kernel, show toldS ([] : Row).length "ab" = "word of 0 runs over ab" from toldN]
        rfl] at E1
      refine seq_asgD (i := 6) E1 (Same.refl _) fun v H5 s5 hv => ?_
      clear E1
      have L1 := ed_lst (K := K) (σ := [some (.ref a), u1, u2, u3, some (.ref x), some (.ref y), some v, none]) (H0 := H5) (ed_cons (ed_tup (ed_cons (ed_tup (ed_cons (ed_str "a") (ed_cons (ed_int 1) ed_nil)) (by decide)) (ed_cons (ed_tup (ed_cons (ed_str "b") (ed_cons (ed_int 1) ed_nil)) (by decide)) (ed_cons (ed_tup (ed_cons (ed_str "a") (ed_cons (ed_neg 1) ed_nil)) (by decide)) (ed_cons (ed_tup (ed_cons (ed_str "b") (ed_cons (ed_neg 1) ed_nil)) (by decide)) ed_nil)))) (by decide))
        (ed_cons (ed_str "aBa") (ed_cons (ed_tup ed_nil (by decide)) (ed_cons (ed_int 4) (ed_cons (ed_bl false) (ed_cons (ed_bl true) (ed_cons (ed_str "word of 0 runs over ab") ed_nil))))))) (by decide)
      refine seq_asgD (i := 7) L1 (Same.refl _) fun v2 H6 s6 hv2 => ?_
      clear L1
      have M1 := ed_lst (K := K) (σ := [some (.ref a), u1, u2, u3, some (.ref x), some (.ref y), some v, some v2]) (H0 := H6) (ed_cons (ed_int 200) (ed_cons (ed_int 400) ed_nil)) (by decide)
      exact ret_and (Same.refl H6) (ed_var rfl fun H7 s7 => hv H7 (s6.trans s7)) (ed_var rfl hv2) M1 M1 told_sh told_eq lim_sh lim_eq fun H7 => q H7
end
end K4

set_option Elab.async false
set_option linter.all false
set_option maxRecDepth 100000
set_option maxHeartbeats 6400000
namespace K4
open PySem L2 Tx Tg Tm
theorem df_mk {K : PySem.W.Frag} {h : Heap} {mg : Str → Option Value} {x : Str} {st : Stmt} {ps : List Str} {f : Addr} {oc kV dc pm cd ct : Value} {od an : Option Addr} {sl : Array (Option Value)} (X : K.In h) (G : h.Ns mainGlobals mg)
    (a : PySem.W.nsIn K mainGlobals x = some (some (.ref f))) (l : K.lookup f = some ⟨oc, od, .func (PySem.W.fnOf x x (defArgs st) (defBody st) (defScope st) .none kV dc pm an cd ct), sl⟩)
    (c : PySem.W.codeIn K cd x = true) (k : PySem.W.keepIn K (.ref f) = true)
    (hb : ∀ (kV doc pm : Value) (an : Option Addr) (cdv ct : Value) (us : List Value), us.length = ps.length → bindArgs (PySem.W.fnOf x x (defArgs st) (defBody st) (defScope st) .none kV doc pm an cdv ct) ⟨us, []⟩ = pure (ps.zip us)) :
    Df K mg x st ps f (PySem.W.fnOf x x (defArgs st) (defBody st) (defScope st) .none kV dc pm an cd ct) :=
  have F := fun_mk (st := st) l c k
  ⟨F, PySem.W.mg_of X G a, F.binds hb⟩
theorem kit_self {K : PySem.W.Frag} {C : Addr} : PySem.W.kitOne K (.ref C) (.ref C) = some true := by
  unfold PySem.W.kitOne
  rw [if_pos (beq_self_eq_true _)]
theorem all_mk {l : PySem.W.OpenLaw} {w : World} {K : PySem.W.Frag} {h : Heap} {mg : Str → Option Value} {fa CM CW : Addr} (X : K.In h) (G : h.Ns mainGlobals mg) (hfa : mg "law" = some (.ref fa))
    (hx : ∃ n t, n = 10 ^ 200 ∧ mg "LEAST_TOO_LONG" = some (.int n t))
    {f1 : Addr} {od1 an1 : Option Addr} {sl1 : Array (Option Value)} {oc1 kV1 dc1 pm1 cd1 ct1 : Value}
    (a1 : PySem.W.nsIn K mainGlobals "is_integer" = some (some (.ref f1))) (l1 : K.lookup f1 = some ⟨oc1, od1, .func (PySem.W.fnOf "is_integer" "is_integer" (defArgs sInt) (defBody sInt) (defScope sInt) .none kV1 dc1 pm1 an1 cd1 ct1), sl1⟩) (c1 : PySem.W.codeIn K cd1 "is_integer" = true) (k1 : PySem.W.keepIn K (.ref f1) = true)
    {f2 : Addr} {od2 an2 : Option Addr} {sl2 : Array (Option Value)} {oc2 kV2 dc2 pm2 cd2 ct2 : Value}
    (a2 : PySem.W.nsIn K mainGlobals "is_letters" = some (some (.ref f2))) (l2 : K.lookup f2 = some ⟨oc2, od2, .func (PySem.W.fnOf "is_letters" "is_letters" (defArgs sLetters) (defBody sLetters) (defScope sLetters) .none kV2 dc2 pm2 an2 cd2 ct2), sl2⟩) (c2 : PySem.W.codeIn K cd2 "is_letters" = true) (k2 : PySem.W.keepIn K (.ref f2) = true)
    {f3 : Addr} {od3 an3 : Option Addr} {sl3 : Array (Option Value)} {oc3 kV3 dc3 pm3 cd3 ct3 : Value}
    (a3 : PySem.W.nsIn K mainGlobals "is_signed" = some (some (.ref f3))) (l3 : K.lookup f3 = some ⟨oc3, od3, .func (PySem.W.fnOf "is_signed" "is_signed" (defArgs sSigned) (defBody sSigned) (defScope sSigned) .none kV3 dc3 pm3 an3 cd3 ct3), sl3⟩) (c3 : PySem.W.codeIn K cd3 "is_signed" = true) (k3 : PySem.W.keepIn K (.ref f3) = true)
    {f4 : Addr} {od4 an4 : Option Addr} {sl4 : Array (Option Value)} {oc4 kV4 dc4 pm4 cd4 ct4 : Value}
    (a4 : PySem.W.nsIn K mainGlobals "check_letters" = some (some (.ref f4))) (l4 : K.lookup f4 = some ⟨oc4, od4, .func (PySem.W.fnOf "check_letters" "check_letters" (defArgs sCheck) (defBody sCheck) (defScope sCheck) .none kV4 dc4 pm4 an4 cd4 ct4), sl4⟩) (c4 : PySem.W.codeIn K cd4 "check_letters" = true) (k4 : PySem.W.keepIn K (.ref f4) = true)
    {f5 : Addr} {od5 an5 : Option Addr} {sl5 : Array (Option Value)} {oc5 kV5 dc5 pm5 cd5 ct5 : Value}
    (a5 : PySem.W.nsIn K mainGlobals "has_only" = some (some (.ref f5))) (l5 : K.lookup f5 = some ⟨oc5, od5, .func (PySem.W.fnOf "has_only" "has_only" (defArgs sHas) (defBody sHas) (defScope sHas) .none kV5 dc5 pm5 an5 cd5 ct5), sl5⟩) (c5 : PySem.W.codeIn K cd5 "has_only" = true) (k5 : PySem.W.keepIn K (.ref f5) = true)
    {f6 : Addr} {od6 an6 : Option Addr} {sl6 : Array (Option Value)} {oc6 kV6 dc6 pm6 cd6 ct6 : Value}
    (a6 : PySem.W.nsIn K mainGlobals "check_signed" = some (some (.ref f6))) (l6 : K.lookup f6 = some ⟨oc6, od6, .func (PySem.W.fnOf "check_signed" "check_signed" (defArgs sCheckSigned) (defBody sCheckSigned) (defScope sCheckSigned) .none kV6 dc6 pm6 an6 cd6 ct6), sl6⟩) (c6 : PySem.W.codeIn K cd6 "check_signed" = true) (k6 : PySem.W.keepIn K (.ref f6) = true)
    {f7 : Addr} {od7 an7 : Option Addr} {sl7 : Array (Option Value)} {oc7 kV7 dc7 pm7 cd7 ct7 : Value}
    (a7 : PySem.W.nsIn K mainGlobals "check_most" = some (some (.ref f7))) (l7 : K.lookup f7 = some ⟨oc7, od7, .func (PySem.W.fnOf "check_most" "check_most" (defArgs sMost) (defBody sMost) (defScope sMost) .none kV7 dc7 pm7 an7 cd7 ct7), sl7⟩) (c7 : PySem.W.codeIn K cd7 "check_most" = true) (k7 : PySem.W.keepIn K (.ref f7) = true)
    {f8 : Addr} {od8 an8 : Option Addr} {sl8 : Array (Option Value)} {oc8 kV8 dc8 pm8 cd8 ct8 : Value}
    (a8 : PySem.W.nsIn K mainGlobals "joined_runs" = some (some (.ref f8))) (l8 : K.lookup f8 = some ⟨oc8, od8, .func (PySem.W.fnOf "joined_runs" "joined_runs" (defArgs sJoin) (defBody sJoin) (defScope sJoin) .none kV8 dc8 pm8 an8 cd8 ct8), sl8⟩) (c8 : PySem.W.codeIn K cd8 "joined_runs" = true) (k8 : PySem.W.keepIn K (.ref f8) = true)
    {f9 : Addr} {od9 an9 : Option Addr} {sl9 : Array (Option Value)} {oc9 kV9 dc9 pm9 cd9 ct9 : Value}
    (a9 : PySem.W.nsIn K mainGlobals "runs_of_signs" = some (some (.ref f9))) (l9 : K.lookup f9 = some ⟨oc9, od9, .func (PySem.W.fnOf "runs_of_signs" "runs_of_signs" (defArgs sOfSigns) (defBody sOfSigns) (defScope sOfSigns) .none kV9 dc9 pm9 an9 cd9 ct9), sl9⟩) (c9 : PySem.W.codeIn K cd9 "runs_of_signs" = true) (k9 : PySem.W.keepIn K (.ref f9) = true)
    {f10 : Addr} {od10 an10 : Option Addr} {sl10 : Array (Option Value)} {oc10 kV10 dc10 pm10 cd10 ct10 : Value}
    (a10 : PySem.W.nsIn K mainGlobals "signs_of_runs" = some (some (.ref f10))) (l10 : K.lookup f10 = some ⟨oc10, od10, .func (PySem.W.fnOf "signs_of_runs" "signs_of_runs" (defArgs sSignsOf) (defBody sSignsOf) (defScope sSignsOf) .none kV10 dc10 pm10 an10 cd10 ct10), sl10⟩) (c10 : PySem.W.codeIn K cd10 "signs_of_runs" = true) (k10 : PySem.W.keepIn K (.ref f10) = true)
    {f11 : Addr} {od11 an11 : Option Addr} {sl11 : Array (Option Value)} {oc11 kV11 dc11 pm11 cd11 ct11 : Value}
    (a11 : PySem.W.nsIn K mainGlobals "is_row_of_runs" = some (some (.ref f11))) (l11 : K.lookup f11 = some ⟨oc11, od11, .func (PySem.W.fnOf "is_row_of_runs" "is_row_of_runs" (defArgs sIsRow) (defBody sIsRow) (defScope sIsRow) .none kV11 dc11 pm11 an11 cd11 ct11), sl11⟩) (c11 : PySem.W.codeIn K cd11 "is_row_of_runs" = true) (k11 : PySem.W.keepIn K (.ref f11) = true)
    {f12 : Addr} {od12 an12 : Option Addr} {sl12 : Array (Option Value)} {oc12 kV12 dc12 pm12 cd12 ct12 : Value}
    (a12 : PySem.W.nsIn K mainGlobals "is_run" = some (some (.ref f12))) (l12 : K.lookup f12 = some ⟨oc12, od12, .func (PySem.W.fnOf "is_run" "is_run" (defArgs sIsRun) (defBody sIsRun) (defScope sIsRun) .none kV12 dc12 pm12 an12 cd12 ct12), sl12⟩) (c12 : PySem.W.codeIn K cd12 "is_run" = true) (k12 : PySem.W.keepIn K (.ref f12) = true)
    {f13 : Addr} {od13 an13 : Option Addr} {sl13 : Array (Option Value)} {oc13 kV13 dc13 pm13 cd13 ct13 : Value}
    (a13 : PySem.W.nsIn K mainGlobals "_law_cup" = some (some (.ref f13))) (l13 : K.lookup f13 = some ⟨oc13, od13, .func (PySem.W.fnOf "_law_cup" "_law_cup" (defArgs sCup) (defBody sCup) (defScope sCup) .none kV13 dc13 pm13 an13 cd13 ct13), sl13⟩) (c13 : PySem.W.codeIn K cd13 "_law_cup" = true) (k13 : PySem.W.keepIn K (.ref f13) = true)
    {f14 : Addr} {od14 an14 : Option Addr} {sl14 : Array (Option Value)} {oc14 kV14 dc14 pm14 cd14 ct14 : Value}
    (a14 : PySem.W.nsIn K mainGlobals "_law_bit" = some (some (.ref f14))) (l14 : K.lookup f14 = some ⟨oc14, od14, .func (PySem.W.fnOf "_law_bit" "_law_bit" (defArgs sBit) (defBody sBit) (defScope sBit) .none kV14 dc14 pm14 an14 cd14 ct14), sl14⟩) (c14 : PySem.W.codeIn K cd14 "_law_bit" = true) (k14 : PySem.W.keepIn K (.ref f14) = true)
    {f15 : Addr} {od15 an15 : Option Addr} {sl15 : Array (Option Value)} {oc15 kV15 dc15 pm15 cd15 ct15 : Value}
    (a15 : PySem.W.nsIn K mainGlobals "_law_pick" = some (some (.ref f15))) (l15 : K.lookup f15 = some ⟨oc15, od15, .func (PySem.W.fnOf "_law_pick" "_law_pick" (defArgs sPick) (defBody sPick) (defScope sPick) .none kV15 dc15 pm15 an15 cd15 ct15), sl15⟩) (c15 : PySem.W.codeIn K cd15 "_law_pick" = true) (k15 : PySem.W.keepIn K (.ref f15) = true)
    {f16 : Addr} {od16 an16 : Option Addr} {sl16 : Array (Option Value)} {oc16 kV16 dc16 pm16 cd16 ct16 : Value}
    (a16 : PySem.W.nsIn K mainGlobals "_law_signs" = some (some (.ref f16))) (l16 : K.lookup f16 = some ⟨oc16, od16, .func (PySem.W.fnOf "_law_signs" "_law_signs" (defArgs sSigns) (defBody sSigns) (defScope sSigns) .none kV16 dc16 pm16 an16 cd16 ct16), sl16⟩) (c16 : PySem.W.codeIn K cd16 "_law_signs" = true) (k16 : PySem.W.keepIn K (.ref f16) = true)
    {f17 : Addr} {od17 an17 : Option Addr} {sl17 : Array (Option Value)} {oc17 kV17 dc17 pm17 cd17 ct17 : Value}
    (a17 : PySem.W.nsIn K mainGlobals "_law_mixed" = some (some (.ref f17))) (l17 : K.lookup f17 = some ⟨oc17, od17, .func (PySem.W.fnOf "_law_mixed" "_law_mixed" (defArgs sMixed) (defBody sMixed) (defScope sMixed) .none kV17 dc17 pm17 an17 cd17 ct17), sl17⟩) (c17 : PySem.W.codeIn K cd17 "_law_mixed" = true) (k17 : PySem.W.keepIn K (.ref f17) = true)
    {f18 : Addr} {od18 an18 : Option Addr} {sl18 : Array (Option Value)} {oc18 kV18 dc18 pm18 cd18 ct18 : Value}
    (a18 : PySem.W.nsIn K mainGlobals "_law_power" = some (some (.ref f18))) (l18 : K.lookup f18 = some ⟨oc18, od18, .func (PySem.W.fnOf "_law_power" "_law_power" (defArgs sPower) (defBody sPower) (defScope sPower) .none kV18 dc18 pm18 an18 cd18 ct18), sl18⟩) (c18 : PySem.W.codeIn K cd18 "_law_power" = true) (k18 : PySem.W.keepIn K (.ref f18) = true)
    {f19 : Addr} {od19 an19 : Option Addr} {sl19 : Array (Option Value)} {oc19 kV19 dc19 pm19 cd19 ct19 : Value}
    (a19 : PySem.W.nsIn K mainGlobals "_law_put_row" = some (some (.ref f19))) (l19 : K.lookup f19 = some ⟨oc19, od19, .func (PySem.W.fnOf "_law_put_row" "_law_put_row" (defArgs sPut) (defBody sPut) (defScope sPut) .none kV19 dc19 pm19 an19 cd19 ct19), sl19⟩) (c19 : PySem.W.codeIn K cd19 "_law_put_row" = true) (k19 : PySem.W.keepIn K (.ref f19) = true)
    {f20 : Addr} {od20 an20 : Option Addr} {sl20 : Array (Option Value)} {oc20 kV20 dc20 pm20 cd20 ct20 : Value}
    (a20 : PySem.W.nsIn K mainGlobals "_law_row" = some (some (.ref f20))) (l20 : K.lookup f20 = some ⟨oc20, od20, .func (PySem.W.fnOf "_law_row" "_law_row" (defArgs sRow) (defBody sRow) (defScope sRow) .none kV20 dc20 pm20 an20 cd20 ct20), sl20⟩) (c20 : PySem.W.codeIn K cd20 "_law_row" = true) (k20 : PySem.W.keepIn K (.ref f20) = true)
    {f21 : Addr} {od21 an21 : Option Addr} {sl21 : Array (Option Value)} {oc21 kV21 dc21 pm21 cd21 ct21 : Value}
    (a21 : PySem.W.nsIn K mainGlobals "_law_row_of" = some (some (.ref f21))) (l21 : K.lookup f21 = some ⟨oc21, od21, .func (PySem.W.fnOf "_law_row_of" "_law_row_of" (defArgs sRowOf) (defBody sRowOf) (defScope sRowOf) .none kV21 dc21 pm21 an21 cd21 ct21), sl21⟩) (c21 : PySem.W.codeIn K cd21 "_law_row_of" = true) (k21 : PySem.W.keepIn K (.ref f21) = true)
    {f22 : Addr} {od22 an22 : Option Addr} {sl22 : Array (Option Value)} {oc22 kV22 dc22 pm22 cd22 ct22 : Value}
    (a22 : PySem.W.nsIn K mainGlobals "_law_cleared" = some (some (.ref f22))) (l22 : K.lookup f22 = some ⟨oc22, od22, .func (PySem.W.fnOf "_law_cleared" "_law_cleared" (defArgs sCleared) (defBody sCleared) (defScope sCleared) .none kV22 dc22 pm22 an22 cd22 ct22), sl22⟩) (c22 : PySem.W.codeIn K cd22 "_law_cleared" = true) (k22 : PySem.W.keepIn K (.ref f22) = true)
    {f23 : Addr} {od23 an23 : Option Addr} {sl23 : Array (Option Value)} {oc23 kV23 dc23 pm23 cd23 ct23 : Value}
    (a23 : PySem.W.nsIn K mainGlobals "_law_in_parts" = some (some (.ref f23))) (l23 : K.lookup f23 = some ⟨oc23, od23, .func (PySem.W.fnOf "_law_in_parts" "_law_in_parts" (defArgs sInParts) (defBody sInParts) (defScope sInParts) .none kV23 dc23 pm23 an23 cd23 ct23), sl23⟩) (c23 : PySem.W.codeIn K cd23 "_law_in_parts" = true) (k23 : PySem.W.keepIn K (.ref f23) = true)
    {f24 : Addr} {od24 an24 : Option Addr} {sl24 : Array (Option Value)} {oc24 kV24 dc24 pm24 cd24 ct24 : Value}
    (a24 : PySem.W.nsIn K mainGlobals "_law_text_right" = some (some (.ref f24))) (l24 : K.lookup f24 = some ⟨oc24, od24, .func (PySem.W.fnOf "_law_text_right" "_law_text_right" (defArgs sTextRight) (defBody sTextRight) (defScope sTextRight) .none kV24 dc24 pm24 an24 cd24 ct24), sl24⟩) (c24 : PySem.W.codeIn K cd24 "_law_text_right" = true) (k24 : PySem.W.keepIn K (.ref f24) = true)
    {f25 : Addr} {od25 an25 : Option Addr} {sl25 : Array (Option Value)} {oc25 kV25 dc25 pm25 cd25 ct25 : Value}
    (a25 : PySem.W.nsIn K mainGlobals "_law_row_right" = some (some (.ref f25))) (l25 : K.lookup f25 = some ⟨oc25, od25, .func (PySem.W.fnOf "_law_row_right" "_law_row_right" (defArgs sRowRight) (defBody sRowRight) (defScope sRowRight) .none kV25 dc25 pm25 an25 cd25 ct25), sl25⟩) (c25 : PySem.W.codeIn K cd25 "_law_row_right" = true) (k25 : PySem.W.keepIn K (.ref f25) = true)
    {f26 : Addr} {od26 an26 : Option Addr} {sl26 : Array (Option Value)} {oc26 kV26 dc26 pm26 cd26 ct26 : Value}
    (a26 : PySem.W.nsIn K mainGlobals "law" = some (some (.ref f26))) (l26 : K.lookup f26 = some ⟨oc26, od26, .func (PySem.W.fnOf "law" "law" (defArgs sLaw) (defBody sLaw) (defScope sLaw) .none kV26 dc26 pm26 an26 cd26 ct26), sl26⟩) (c26 : PySem.W.codeIn K cd26 "law" = true) (k26 : PySem.W.keepIn K (.ref f26) = true)
    (aM : PySem.W.nsIn K mainGlobals "Made" = some (some (.ref CM))) (aW : PySem.W.nsIn K mainGlobals "Word" = some (some (.ref CW)))
    {fMi : Addr} {odMi anMi : Option Addr} {slMi : Array (Option Value)} {ocMi kVMi dcMi pmMi cdMi ctMi : Value}
    (aMi : PySem.W.findIn K (.ref CM) "__init__" = some (some (.ref fMi))) (iMi : PySem.W.isFn K (.ref fMi) = true) (lMi : K.lookup fMi = some ⟨ocMi, odMi, .func (PySem.W.fnOf "__init__" "Made.__init__" (defArgs sMadeInit) (defBody sMadeInit) (defScope sMadeInit) .none kVMi dcMi pmMi anMi cdMi ctMi), slMi⟩) (cMi : PySem.W.codeIn K cdMi "Made.__init__" = true) (kMi : PySem.W.keepIn K (.ref fMi) = true)
    {fWi : Addr} {odWi anWi : Option Addr} {slWi : Array (Option Value)} {ocWi kVWi dcWi pmWi cdWi ctWi : Value}
    (aWi : PySem.W.findIn K (.ref CW) "__init__" = some (some (.ref fWi))) (iWi : PySem.W.isFn K (.ref fWi) = true) (lWi : K.lookup fWi = some ⟨ocWi, odWi, .func (PySem.W.fnOf "__init__" "Word.__init__" (defArgs sWordInit) (defBody sWordInit) (defScope sWordInit) .none kVWi dcWi pmWi anWi cdWi ctWi), slWi⟩) (cWi : PySem.W.codeIn K cdWi "Word.__init__" = true) (kWi : PySem.W.keepIn K (.ref fWi) = true)
    {fEq : Addr} {odEq anEq : Option Addr} {slEq : Array (Option Value)} {ocEq kVEq dcEq pmEq cdEq ctEq : Value}
    (aEq : PySem.W.findIn K (.ref CW) "__eq__" = some (some (.ref fEq))) (iEq : PySem.W.isFn K (.ref fEq) = true) (lEq : K.lookup fEq = some ⟨ocEq, odEq, .func (PySem.W.fnOf "__eq__" "Word.__eq__" (defArgs sEq) (defBody sEq) (defScope sEq) .none kVEq dcEq pmEq anEq cdEq ctEq), slEq⟩) (cEq : PySem.W.codeIn K cdEq "Word.__eq__" = true) (kEq : PySem.W.keepIn K (.ref fEq) = true)
    {fLe : Addr} {odLe anLe : Option Addr} {slLe : Array (Option Value)} {ocLe kVLe dcLe pmLe cdLe ctLe : Value}
    (aLe : PySem.W.findIn K (.ref CW) "__len__" = some (some (.ref fLe))) (iLe : PySem.W.isFn K (.ref fLe) = true) (lLe : K.lookup fLe = some ⟨ocLe, odLe, .func (PySem.W.fnOf "__len__" "Word.__len__" (defArgs sLen) (defBody sLen) (defScope sLen) .none kVLe dcLe pmLe anLe cdLe ctLe), slLe⟩) (cLe : PySem.W.codeIn K cdLe "Word.__len__" = true) (kLe : PySem.W.keepIn K (.ref fLe) = true)
    {fSh : Addr} {odSh anSh : Option Addr} {slSh : Array (Option Value)} {ocSh kVSh dcSh pmSh cdSh ctSh : Value}
    (aSh : PySem.W.findIn K (.ref CW) "shortest" = some (some (.ref fSh))) (iSh : PySem.W.isFn K (.ref fSh) = true) (lSh : K.lookup fSh = some ⟨ocSh, odSh, .func (PySem.W.fnOf "shortest" "Word.shortest" (defArgs sShort) (defBody sShort) (defScope sShort) .none kVSh dcSh pmSh anSh cdSh ctSh), slSh⟩) (cSh : PySem.W.codeIn K cdSh "Word.shortest" = true) (kSh : PySem.W.keepIn K (.ref fSh) = true)
    {fIx : Addr} {odIx anIx : Option Addr} {slIx : Array (Option Value)} {ocIx kVIx dcIx pmIx cdIx ctIx : Value}
    (aIx : PySem.W.findIn K (.ref CW) "__getitem__" = some (some (.ref fIx))) (iIx : PySem.W.isFn K (.ref fIx) = true) (lIx : K.lookup fIx = some ⟨ocIx, odIx, .func (PySem.W.fnOf "__getitem__" "Word.__getitem__" (defArgs sIx) (defBody sIx) (defScope sIx) .none kVIx dcIx pmIx anIx cdIx ctIx), slIx⟩) (cIx : PySem.W.codeIn K cdIx "Word.__getitem__" = true) (kIx : PySem.W.keepIn K (.ref fIx) = true)
    {fIt : Addr} {odIt anIt : Option Addr} {slIt : Array (Option Value)} {ocIt kVIt dcIt pmIt cdIt ctIt : Value}
    (aIt : PySem.W.findIn K (.ref CW) "__iter__" = some (some (.ref fIt))) (iIt : PySem.W.isFn K (.ref fIt) = true) (lIt : K.lookup fIt = some ⟨ocIt, odIt, .func (PySem.W.fnOf "__iter__" "Word.__iter__" (defArgs sIter) (defBody sIter) (defScope sIter) .none kVIt dcIt pmIt anIt cdIt ctIt), slIt⟩) (cIt : PySem.W.codeIn K cdIt "Word.__iter__" = true) (kIt : PySem.W.keepIn K (.ref fIt) = true)
    {fSt : Addr} {odSt anSt : Option Addr} {slSt : Array (Option Value)} {ocSt kVSt dcSt pmSt cdSt ctSt : Value}
    (aSt : PySem.W.findIn K (.ref CW) "__str__" = some (some (.ref fSt))) (iSt : PySem.W.isFn K (.ref fSt) = true) (lSt : K.lookup fSt = some ⟨ocSt, odSt, .func (PySem.W.fnOf "__str__" "Word.__str__" (defArgs sStr) (defBody sStr) (defScope sStr) .none kVSt dcSt pmSt anSt cdSt ctSt), slSt⟩) (cSt : PySem.W.codeIn K cdSt "Word.__str__" = true) (kSt : PySem.W.keepIn K (.ref fSt) = true)
    {fPl : Addr} {odPl anPl : Option Addr} {slPl : Array (Option Value)} {ocPl kVPl dcPl pmPl cdPl ctPl : Value}
    (aPl : PySem.W.findIn K (.ref CW) "is_plain" = some (some (.ref fPl))) (iPl : PySem.W.isFn K (.ref fPl) = true) (lPl : K.lookup fPl = some ⟨ocPl, odPl, .func (PySem.W.fnOf "is_plain" "Word.is_plain" (defArgs sPlain) (defBody sPlain) (defScope sPlain) .none kVPl dcPl pmPl anPl cdPl ctPl), slPl⟩) (cPl : PySem.W.codeIn K cdPl "Word.is_plain" = true) (kPl : PySem.W.keepIn K (.ref fPl) = true)
    {fLt : Addr} {odLt anLt : Option Addr} {slLt : Array (Option Value)} {ocLt kVLt dcLt pmLt cdLt ctLt : Value}
    {pLt : Addr} {restLt : List Value} (aLt : PySem.W.findIn K (.ref CW) "letters" = some (some (.ref pLt))) (gLt' : PySem.W.specialIn K (.ref pLt) "__get__" = some (some (.builtin "property.__get__"))) (tLt : PySem.W.takesIn K (.ref pLt) = some true) (rLt : PySem.W.recIn K pLt "property" = some (.ref fLt :: restLt)) (lLt : K.lookup fLt = some ⟨ocLt, odLt, .func (PySem.W.fnOf "letters" "Word.letters" (defArgs sLet) (defBody sLet) (defScope sLet) .none kVLt dcLt pmLt anLt cdLt ctLt), slLt⟩) (cLt : PySem.W.codeIn K cdLt "Word.letters" = true) (kLt : PySem.W.keepIn K (.ref fLt) = true)
    {fRu : Addr} {odRu anRu : Option Addr} {slRu : Array (Option Value)} {ocRu kVRu dcRu pmRu cdRu ctRu : Value}
    {pRu : Addr} {restRu : List Value} (aRu : PySem.W.findIn K (.ref CW) "runs" = some (some (.ref pRu))) (gRu' : PySem.W.specialIn K (.ref pRu) "__get__" = some (some (.builtin "property.__get__"))) (tRu : PySem.W.takesIn K (.ref pRu) = some true) (rRu : PySem.W.recIn K pRu "property" = some (.ref fRu :: restRu)) (lRu : K.lookup fRu = some ⟨ocRu, odRu, .func (PySem.W.fnOf "runs" "Word.runs" (defArgs sRuns) (defBody sRuns) (defScope sRuns) .none kVRu dcRu pmRu anRu cdRu ctRu), slRu⟩) (cRu : PySem.W.codeIn K cdRu "Word.runs" = true) (kRu : PySem.W.keepIn K (.ref fRu) = true)
    {fSi : Addr} {odSi anSi : Option Addr} {slSi : Array (Option Value)} {ocSi kVSi dcSi pmSi cdSi ctSi : Value}
    {pSi : Addr} {restSi : List Value} (aSi : PySem.W.findIn K (.ref CW) "size" = some (some (.ref pSi))) (gSi' : PySem.W.specialIn K (.ref pSi) "__get__" = some (some (.builtin "property.__get__"))) (tSi : PySem.W.takesIn K (.ref pSi) = some true) (rSi : PySem.W.recIn K pSi "property" = some (.ref fSi :: restSi)) (lSi : K.lookup fSi = some ⟨ocSi, odSi, .func (PySem.W.fnOf "size" "Word.size" (defArgs sSize) (defBody sSize) (defScope sSize) .none kVSi dcSi pmSi anSi cdSi ctSi), slSi⟩) (cSi : PySem.W.codeIn K cdSi "Word.size" = true) (kSi : PySem.W.keepIn K (.ref fSi) = true)
    {fOf : Addr} {odOf anOf : Option Addr} {slOf : Array (Option Value)} {ocOf kVOf dcOf pmOf cdOf ctOf : Value}
    {pOf : Addr} {restOf : List Value} (aOf : PySem.W.findCls K (.ref CW) (.type "type") "of" = some (.get (.builtin "classmethod.__get__") (.ref pOf) .none (.ref CW))) (rOf : PySem.W.recIn K pOf "classmethod" = some (.ref fOf :: restOf)) (iOf : PySem.W.fnIn K fOf = true) (lOf : K.lookup fOf = some ⟨ocOf, odOf, .func (PySem.W.fnOf "of" "Word.of" (defArgs sOf) (defBody sOf) (defScope sOf) .none kVOf dcOf pmOf anOf cdOf ctOf), slOf⟩) (cOf : PySem.W.codeIn K cdOf "Word.of" = true) (kOf : PySem.W.keepIn K (.ref fOf) = true)
    (pgM : PySem.W.plainGet K CM Str.empty = true) (hdM : PySem.W.hasDictIn K CM = true) (poM : PySem.W.plainOver K CM = true) (saM : PySem.W.findIn K (.ref CM) "__setattr__" = some (some (.builtin "object.__setattr__"))) (mkM : PySem.W.makesIn K CM = true) (kcM : PySem.W.keepIn K (.ref CM) = true)
    (haM : PySem.W.findIn K (.ref CM) "__class__" = some (some (.builtin "object.__class__"))) (hmM : PySem.W.mroIn K CM (.type "object") = some true)
    (pgW : PySem.W.plainGet K CW Str.empty = true) (hdW : PySem.W.hasDictIn K CW = true) (poW : PySem.W.plainOver K CW = true) (saW : PySem.W.findIn K (.ref CW) "__setattr__" = some (some (.builtin "object.__setattr__"))) (mkW : PySem.W.makesIn K CW = true) (kcW : PySem.W.keepIn K (.ref CW) = true)
    (haW : PySem.W.findIn K (.ref CW) "__class__" = some (some (.builtin "object.__class__"))) (hmW : PySem.W.mroIn K CW (.type "object") = some true)
    (qHn : PySem.W.specialIn K (.builtin "object.__class__") "__get__" = some (some (.builtin "getset_descriptor.__get__"))) (qHt : PySem.W.takesIn K (.builtin "object.__class__") = some true)
    (nC : PySem.W.findIn K (.ref CM) "content" = some none) (nL : PySem.W.findIn K (.ref CW) "_letters" = some none) (nR : PySem.W.findIn K (.ref CW) "_runs" = some none) (iTM : PySem.W.kitOne K (.type "tuple") (.ref CM) = some false)
    (qNf : PySem.W.notFirst K CW (.ref CW) = true) (qOb : PySem.W.subIn K (.ref CW) (.type "object") = some true) (qNe : PySem.W.findIn K (.ref CW) "__ne__" = some (some (.builtin "object.__ne__"))) (qRd : PySem.W.readsIn K CW (.type "type") = true) (qGa : PySem.W.specialIn K (.ref CW) "__getattribute__" = some (some (.builtin "type.__getattribute__"))) (qIx : PySem.W.fnIn K fIx = true)
    (x1 : PySem.W.notFirst K CW (.type "NoneType") = true) (y1 : PySem.W.kitOne K (.type "NoneType") (.ref CW) = some false)
    (x2 : PySem.W.notFirst K CW (.type "int") = true) (y2 : PySem.W.kitOne K (.type "int") (.ref CW) = some false)
    (x3 : PySem.W.notFirst K CW (.type "tuple") = true) (y3 : PySem.W.kitOne K (.type "tuple") (.ref CW) = some false)
    (x4 : PySem.W.notFirst K CW (.type "str") = true) (y4 : PySem.W.kitOne K (.type "str") (.ref CW) = some false)
    (x5 : PySem.W.notFirst K CW (.type "list") = true) (y5 : PySem.W.kitOne K (.type "list") (.ref CW) = some false)
    (z1 : PySem.W.nsIn K mainGlobals "isinstance" = some none)
    (z2 : PySem.W.nsIn K mainGlobals "int" = some none)
    (z3 : PySem.W.nsIn K mainGlobals "str" = some none)
    (z4 : PySem.W.nsIn K mainGlobals "bool" = some none)
    (z5 : PySem.W.nsIn K mainGlobals "abs" = some none)
    (z6 : PySem.W.nsIn K mainGlobals "len" = some none)
    (z7 : PySem.W.nsIn K mainGlobals "list" = some none)
    (z8 : PySem.W.nsIn K mainGlobals "set" = some none)
    (z9 : PySem.W.nsIn K mainGlobals "sorted" = some none)
    (z10 : PySem.W.nsIn K mainGlobals "repr" = some none)
    (z11 : PySem.W.nsIn K mainGlobals "range" = some none)
    (z12 : PySem.W.nsIn K mainGlobals "max" = some none)
    (z13 : PySem.W.nsIn K mainGlobals "min" = some none)
    (z14 : PySem.W.nsIn K mainGlobals "all" = some none)
    (z15 : PySem.W.nsIn K mainGlobals "sum" = some none)
    (z16 : PySem.W.nsIn K mainGlobals "tuple" = some none)
    (z17 : PySem.W.nsIn K mainGlobals "iter" = some none)
    {t1 : Tok} (v1 : PySem.W.nsIn K mainGlobals "ALPHABET" = some (some (.str alpha t1)))
    {t2 : Tok} (v2 : PySem.W.nsIn K mainGlobals "MAX_LETTERS" = some (some (.int 3 t2)))
    {t3 : Tok} (v3 : PySem.W.nsIn K mainGlobals "MAX_TEXT" = some (some (.int 4000 t3)))
    {t4 : Tok} (v4 : PySem.W.nsIn K mainGlobals "MAX_RUNS" = some (some (.int 200 t4)))
    {t5 : Tok} (v5 : PySem.W.nsIn K mainGlobals "MAX_POWER" = some (some (.int 400 t5))) :
    ∃ fd : FuncData, (∀ (s : Shared) (v : Value), BindsTo s fd ⟨[v], []⟩ [("_law_script", v)]) ∧ ∀ base : Heap, K.In base → base.Ns mainGlobals mg → Kept l.prog w K mg base CX0 8 fa fd ["_law_script"] (spLaw K) := by
  have e := hfa.symm.trans (PySem.W.mg_of X G a26)
  cases e
  obtain ⟨n, t0, en, hx⟩ := hx
  subst en
  have T : Txt K mg := ⟨PySem.W.mg_none_of X G z1, PySem.W.mg_none_of X G z2, PySem.W.mg_none_of X G z3, PySem.W.mg_none_of X G z4, PySem.W.mg_none_of X G z5, PySem.W.mg_none_of X G z6, PySem.W.mg_none_of X G z7, PySem.W.mg_none_of X G z8, PySem.W.mg_none_of X G z9, PySem.W.mg_none_of X G z10, PySem.W.mg_none_of X G z11, PySem.W.mg_none_of X G z12, PySem.W.mg_none_of X G z13, PySem.W.mg_none_of X G z14, PySem.W.mg_none_of X G z15, PySem.W.mg_none_of X G z16, ⟨_, hx⟩, ⟨_, PySem.W.mg_of X G v1⟩, ⟨_, PySem.W.mg_of X G v2⟩, ⟨_, PySem.W.mg_of X G v3⟩, ⟨_, PySem.W.mg_of X G v4⟩, ⟨_, PySem.W.mg_of X G v5⟩⟩
  have D1 : Df K mg "is_integer" sInt ["value"] f1 _ := df_mk X G a1 l1 c1 k1 fun _ _ _ _ _ _ us hl => match us, hl with | [_], _ => rfl
  have D2 : Df K mg "is_letters" sLetters ["value"] f2 _ := df_mk X G a2 l2 c2 k2 fun _ _ _ _ _ _ us hl => match us, hl with | [_], _ => rfl
  have D3 : Df K mg "is_signed" sSigned ["letters", "value"] f3 _ := df_mk X G a3 l3 c3 k3 fun _ _ _ _ _ _ us hl => match us, hl with | [_, _], _ => rfl
  have D4 : Df K mg "check_letters" sCheck ["value"] f4 _ := df_mk X G a4 l4 c4 k4 fun _ _ _ _ _ _ us hl => match us, hl with | [_], _ => rfl
  have D5 : Df K mg "has_only" sHas ["value", "signs", "most"] f5 _ := df_mk X G a5 l5 c5 k5 fun _ _ _ _ _ _ us hl => match us, hl with | [_, _, _], _ => rfl
  have D6 : Df K mg "check_signed" sCheckSigned ["letters", "value"] f6 _ := df_mk X G a6 l6 c6 k6 fun _ _ _ _ _ _ us hl => match us, hl with | [_, _], _ => rfl
  have D7 : Df K mg "check_most" sMost ["many", "limit"] f7 _ := df_mk X G a7 l7 c7 k7 fun _ _ _ _ _ _ us hl => match us, hl with | [_, _], _ => rfl
  have D8 : Df K mg "joined_runs" sJoin ["pairs"] f8 _ := df_mk X G a8 l8 c8 k8 fun _ _ _ _ _ _ us hl => match us, hl with | [_], _ => rfl
  have D9 : Df K mg "runs_of_signs" sOfSigns ["signs"] f9 _ := df_mk X G a9 l9 c9 k9 fun _ _ _ _ _ _ us hl => match us, hl with | [_], _ => rfl
  have D10 : Df K mg "signs_of_runs" sSignsOf ["runs"] f10 _ := df_mk X G a10 l10 c10 k10 fun _ _ _ _ _ _ us hl => match us, hl with | [_], _ => rfl
  have D11 : Df K mg "is_row_of_runs" sIsRow ["letters", "value"] f11 _ := df_mk X G a11 l11 c11 k11 fun _ _ _ _ _ _ us hl => match us, hl with | [_, _], _ => rfl
  have D12 : Df K mg "is_run" sIsRun ["letters", "value"] f12 _ := df_mk X G a12 l12 c12 k12 fun _ _ _ _ _ _ us hl => match us, hl with | [_, _], _ => rfl
  have D13 : Df K mg "_law_cup" sCup ["_law_script", "_law_at"] f13 _ := df_mk X G a13 l13 c13 k13 fun _ _ _ _ _ _ us hl => match us, hl with | [_, _], _ => rfl
  have D14 : Df K mg "_law_bit" sBit ["_law_cup_here", "_law_much"] f14 _ := df_mk X G a14 l14 c14 k14 fun _ _ _ _ _ _ us hl => match us, hl with | [_, _], _ => rfl
  have D15 : Df K mg "_law_pick" sPick ["_law_cup_here", "_law_items"] f15 _ := df_mk X G a15 l15 c15 k15 fun _ _ _ _ _ _ us hl => match us, hl with | [_, _], _ => rfl
  have D16 : Df K mg "_law_signs" sSigns ["_law_cup_here"] f16 _ := df_mk X G a16 l16 c16 k16 fun _ _ _ _ _ _ us hl => match us, hl with | [_], _ => rfl
  have D17 : Df K mg "_law_mixed" sMixed ["_law_cup_here", "_law_signs_here", "_law_most"] f17 _ := df_mk X G a17 l17 c17 k17 fun _ _ _ _ _ _ us hl => match us, hl with | [_, _, _], _ => rfl
  have D18 : Df K mg "_law_power" sPower ["_law_cup_here", "_law_most"] f18 _ := df_mk X G a18 l18 c18 k18 fun _ _ _ _ _ _ us hl => match us, hl with | [_, _], _ => rfl
  have D19 : Df K mg "_law_put_row" sPut ["_law_row_here", "_law_sign", "_law_much"] f19 _ := df_mk X G a19 l19 c19 k19 fun _ _ _ _ _ _ us hl => match us, hl with | [_, _, _], _ => rfl
  have D20 : Df K mg "_law_row" sRow ["_law_cup_here", "_law_signs_here", "_law_much", "_law_most"] f20 _ := df_mk X G a20 l20 c20 k20 fun _ _ _ _ _ _ us hl => match us, hl with | [_, _, _, _], _ => rfl
  have D21 : Df K mg "_law_row_of" sRowOf ["_law_line"] f21 _ := df_mk X G a21 l21 c21 k21 fun _ _ _ _ _ _ us hl => match us, hl with | [_], _ => rfl
  have D22 : Df K mg "_law_cleared" sCleared ["_law_cup_here", "_law_line"] f22 _ := df_mk X G a22 l22 c22 k22 fun _ _ _ _ _ _ us hl => match us, hl with | [_, _], _ => rfl
  have D23 : Df K mg "_law_in_parts" sInParts ["_law_cup_here", "_law_row_here"] f23 _ := df_mk X G a23 l23 c23 k23 fun _ _ _ _ _ _ us hl => match us, hl with | [_, _], _ => rfl
  have D24 : Df K mg "_law_text_right" sTextRight ["_law_cup_here", "_law_signs_here"] f24 _ := df_mk X G a24 l24 c24 k24 fun _ _ _ _ _ _ us hl => match us, hl with | [_, _], _ => rfl
  have D25 : Df K mg "_law_row_right" sRowRight ["_law_cup_here", "_law_signs_here"] f25 _ := df_mk X G a25 l25 c25 k25 fun _ _ _ _ _ _ us hl => match us, hl with | [_, _], _ => rfl
  have D26 : Df K mg "law" sLaw ["_law_script"] fa _ := df_mk X G a26 l26 c26 k26 fun _ _ _ _ _ _ us hl => match us, hl with | [_], _ => rfl
  have FMi := fun_mk (st := sMadeInit) lMi cMi kMi
  have bMi := FMi.binds (ps := ["self", "content"]) fun _ _ _ _ _ _ us hl => match us, hl with | [_, _], _ => rfl
  have FWi := fun_mk (st := sWordInit) lWi cWi kWi
  have bWi := FWi.binds (ps := ["self", "letters", "runs"]) fun _ _ _ _ _ _ us hl => match us, hl with | [_, _, _], _ => rfl
  have FEq := fun_mk (st := sEq) lEq cEq kEq
  have bEq := FEq.binds (ps := ["self", "other"]) fun _ _ _ _ _ _ us hl => match us, hl with | [_, _], _ => rfl
  have FLe := fun_mk (st := sLen) lLe cLe kLe
  have bLe := FLe.binds (ps := ["self"]) fun _ _ _ _ _ _ us hl => match us, hl with | [_], _ => rfl
  have FSh := fun_mk (st := sShort) lSh cSh kSh
  have bSh := FSh.binds (ps := ["self"]) fun _ _ _ _ _ _ us hl => match us, hl with | [_], _ => rfl
  have FIx := fun_mk (st := sIx) lIx cIx kIx
  have bIx := FIx.binds (ps := ["self", "at"]) fun _ _ _ _ _ _ us hl => match us, hl with | [_, _], _ => rfl
  have FIt := fun_mk (st := sIter) lIt cIt kIt
  have bIt := FIt.binds (ps := ["self"]) fun _ _ _ _ _ _ us hl => match us, hl with | [_], _ => rfl
  have FSt := fun_mk (st := sStr) lSt cSt kSt
  have bSt := FSt.binds (ps := ["self"]) fun _ _ _ _ _ _ us hl => match us, hl with | [_], _ => rfl
  have FPl := fun_mk (st := sPlain) lPl cPl kPl
  have bPl := FPl.binds (ps := ["self"]) fun _ _ _ _ _ _ us hl => match us, hl with | [_], _ => rfl
  have FLt := fun_mk (st := sLet) lLt cLt kLt
  have bLt := FLt.binds (ps := ["self"]) fun _ _ _ _ _ _ us hl => match us, hl with | [_], _ => rfl
  have FRu := fun_mk (st := sRuns) lRu cRu kRu
  have bRu := FRu.binds (ps := ["self"]) fun _ _ _ _ _ _ us hl => match us, hl with | [_], _ => rfl
  have FSi := fun_mk (st := sSize) lSi cSi kSi
  have bSi := FSi.binds (ps := ["self"]) fun _ _ _ _ _ _ us hl => match us, hl with | [_], _ => rfl
  have FOf := fun_mk (st := sOf) lOf cOf kOf
  have bOf := FOf.binds (ps := ["cls", "letters", "text"]) fun _ _ _ _ _ _ us hl => match us, hl with | [_, _, _], _ => rfl
  have clM : Cls K CM := ⟨pgM, hdM, poM, saM⟩
  have clW : Cls K CW := ⟨pgW, hdW, poW, saW⟩
  have W : WF K mg CM CW := ⟨PySem.W.mg_of X G aM, PySem.W.mg_of X G aW, clM, nC, clW, nL, nR, kit_self, iTM, fun H a dx fs e => .base (.ins e clM haM qHn qHt hmM), fun H a dx fs e => .base (.ins e clW haW qHn qHt hmW), kit_self⟩
  refine ⟨PySem.W.fnOf "law" "law" (defArgs sLaw) (defBody sLaw) (defScope sLaw) .none kV26 dc26 pm26 an26 cd26 ct26, fun s v => .of_eq rfl, fun base _ _ => ?_⟩
  have gMI : FnOk l.prog w K mg base CX0 1 fMi _ ["self", "content"] (spMadeInit CM) := ok_madeinit FMi W
  have gWI : FnOk l.prog w K mg base CX0 4 fWi _ ["self", "letters", "runs"] (spWordInit K CM CW) := ok_wordinit FWi T W D5 D2 D4 D1 D12 D11 D8 D7
  have M : Makes4 l.prog w K mg base CM CW fMi fWi _ _ := ⟨W, ⟨mkM, aMi, iMi, kcM⟩, ⟨mkW, aWi, iWi, kcW⟩, gMI, gWI, bMi, bWi⟩
  have gSi : FnOk l.prog w K mg base CX0 1 fSi _ ["self"] (spSize K CW) := ok_size FSi T W
  have gOf : FnOk l.prog w K mg base CX0 6 fOf _ ["cls", "letters", "text"] (spOf K CW) := ok_of FOf T M D5 D2 D4 D3 D6 D8 D9
  have C : Cl3 l.prog w K mg base CM CW :=
    { W := W, fMI := fMi, fWI := fWi, fEq := fEq, fLen := fLe, fSh := fSh, fRu := fRu, fSi := fSi, fLe := fLt, fIx := fIx, fIt := fIt, fSt := fSt, fPl := fPl, pR := pRu, pS := pSi, pL := pLt, pO := pOf, gO := fOf
      dMI := _, dWI := _, dEq := _, dLen := _, dSh := _, dRu := _, dSi := _, dLe := _, dIx := _, dIt := _, dSt := _, dPl := _, mc := .type "type", MK := M
      gEq := ok_eq FEq T W, gEqX := ok_eqX FEq T W, gLen := ok_len FLe T W, gSh := ok_short FSh T W D7 D10 gSi ⟨aSi, gSi', tSi, restSi, rSi⟩ bSi, gRu := ok_runs FRu W, gSi := gSi, gLe := ok_let FLt W
      gIx := ok_ix FIx T W D1, gIt := ok_iter FIt (PySem.W.mg_none_of X G z17) W, gSt := ok_str FSt T W, gPl := ok_plain FPl T W
      bEq := bEq, bLen := bLe, bSh := bSh, bRu := bRu, bSi := bSi, bLe := bLt, bIx := bIx, bIt := bIt, bSt := bSt, bPl := bPl, nf := qNf, ob := qOb, sEq := aEq, sNe := qNe, sLen := aLe, sIx := aIx, sIt := aIt, sSt := aSt
      fnEq := iEq, fnLen := iLe, fnIx := iIx, fIxI := qIx, fnIt := iIt, fnSt := iSt, mSh := ⟨aSh, iSh, kSh⟩, mPl := ⟨aPl, iPl, kPl⟩, pRu := ⟨aRu, gRu', tRu, restRu, rRu⟩, pSi := ⟨aSi, gSi', tSi, restSi, rSi⟩, pLe := ⟨aLt, gLt', tLt, restLt, rLt⟩
      rd := ⟨qRd, qGa⟩, cm := ⟨aOf, ⟨restOf, rOf⟩, iOf⟩, gOf := (gOf.raw bOf .nil).imp fun vs H Q E h => by rw [List.append_nil]; exact h }
  have gRow := ok_row (P := l.prog) (w := w) (base := base) D20.F T D14 D15 D18 D19
  have GT := ok_tr D24.F T C D14 D15 D17 D22 D21 (ok_rowof D21.F T D19)
  have GR := ok_rr (fB := fa) (fP := fa) (dB := PySem.W.fnOf "law" "law" (defArgs sLaw) (defBody sLaw) (defScope sLaw) .none kV26 dc26 pm26 an26 cd26 ct26) (dP := PySem.W.fnOf "law" "law" (defArgs sLaw) (defBody sLaw) (defScope sLaw) .none kV26 dc26 pm26 an26 cd26 ct26) D25.F T C ⟨x1, y1⟩ ⟨x2, y2⟩ ⟨x3, y3⟩ ⟨x4, y4⟩ ⟨x5, y5⟩ D20 D23 gRow (ok_parts D23.F T D14 D15)
  exact ok_law D26.F T C D13 D16 D24 D25 (ok_cup D13.F T) (ok_signs D16.F T D14 D15) GT GR
theorem fin {l : PySem.W.OpenLaw} {q : Program} {loose : List Str} {XP : (Str → Option Value) → Heap → Prop} {YP : World → Heap → Prop} {d : DefRec} {K : Params → PySem.W.Frag} (hn : l.most = some 63) (hdf : d.params.defaults = [])
    (hY : ∀ (w : World) (h : Heap), YP w h → (K w.params).In h)
    (F : ∀ (w : World) (mg : Str → Option Value) (fa : Addr) (h : Heap), (K w.params).In h → h.Ns mainGlobals mg → mg d.name = some (.ref fa) → XP mg h →
      ∃ fd : FuncData, (∀ (s : Shared) (u : Value), BindsTo s fd ⟨[u], []⟩ [("_law_script", u)]) ∧ ∀ base : Heap, (K w.params).In base → base.Ns mainGlobals mg → Kept l.prog w (K w.params) mg base CX0 8 fa fd ["_law_script"] (spLaw (K w.params))) :
    PySem.W.WalkO q loose XP YP l.row.toRowW d [] (fun f vs => PySem.call f vs) :=
  Tg.walk (n := 63) (k := 8) (x := "_law_script") (cx := fun _ => CX0) (sp := fun w => spLaw (K w.params)) hn (by decide) hdf ⟨rfl, by decide, by decide⟩ hY F (fun _ _ a ns hl _ hS => ⟨a, ns, rfl, hS, hl, fun _ => rfl⟩) fun _ _ _ _ _ z => z
end K4

set_option Elab.async false
set_option maxRecDepth 100000
open PySem PySem.W PyProof.Rows
set_option maxRecDepth 100000 in
set_option maxHeartbeats 0 in
theorem PySem.Challenge.cw_whatcounts_k03_whole_words_told_and_canc_holds : PySem.Challenge.rw_whatcounts_k03_whole_words_told_and_canc.Holds := by
  w_on; o_law; k_head; (case hw => w_witness2)
  k_fill
  refine K4.fin (l := PySem.Challenge.rw_whatcounts_k03_whole_words_told_and_canc) rfl rfl (fun w h Y => PySem.W.kIn_of Y) ?F
  case F =>
    intro w mg fa h KX G hmg hx
    have hx' : ∃ n t, n = 10 ^ 200 ∧ mg "LEAST_TOO_LONG" = some (.int n t) := by
      obtain ⟨v, e, r⟩ := hx.2.val _ (List.mem_singleton.mpr rfl)
      cases r
      exact ⟨_, _, by decide +kernel, e⟩
    refine' K4.all_mk KX G hmg hx' ?a1 ?l1 ?c1 ?k1 ?a2 ?l2 ?c2 ?k2 ?a3 ?l3 ?c3 ?k3 ?a4 ?l4 ?c4 ?k4 ?a5 ?l5 ?c5 ?k5 ?a6 ?l6 ?c6 ?k6 ?a7 ?l7 ?c7 ?k7 ?a8 ?l8 ?c8 ?k8 ?a9 ?l9 ?c9 ?k9 ?a10 ?l10 ?c10 ?k10 ?a11 ?l11 ?c11 ?k11 ?a12 ?l12 ?c12 ?k12 ?a13 ?l13 ?c13 ?k13 ?a14 ?l14 ?c14 ?k14 ?a15 ?l15 ?c15 ?k15 ?a16 ?l16 ?c16 ?k16 ?a17 ?l17 ?c17 ?k17 ?a18 ?l18 ?c18 ?k18 ?a19 ?l19 ?c19 ?k19 ?a20 ?l20 ?c20 ?k20 ?a21 ?l21 ?c21 ?k21 ?a22 ?l22 ?c22 ?k22 ?a23 ?l23 ?c23 ?k23 ?a24 ?l24 ?c24 ?k24 ?a25 ?l25 ?c25 ?k25 ?a26 ?l26 ?c26 ?k26 ?aM ?aW ?aMi ?iMi ?lMi ?cMi ?kMi ?aWi ?iWi ?lWi ?cWi ?kWi ?aEq ?iEq ?lEq ?cEq ?kEq ?aLe ?iLe ?lLe ?cLe ?kLe ?aSh ?iSh ?lSh ?cSh ?kSh ?aIx ?iIx ?lIx ?cIx ?kIx ?aIt ?iIt ?lIt ?cIt ?kIt ?aSt ?iSt ?lSt ?cSt ?kSt ?aPl ?iPl ?lPl ?cPl ?kPl ?aLt ?gLt ?tLt ?rLt ?lLt ?cLt ?kLt ?aRu ?gRu ?tRu ?rRu ?lRu ?cRu ?kRu ?aSi ?gSi ?tSi ?rSi ?lSi ?cSi ?kSi ?aOf ?rOf ?iOf ?lOf ?cOf ?kOf ?pgM ?hdM ?poM ?saM ?mkM ?kcM ?haM ?hmM ?pgW ?hdW ?poW ?saW ?mkW ?kcW ?haW ?hmW ?qHn ?qHt ?nC ?nL ?nR ?iTM ?qNf ?qOb ?qNe ?qRd ?qGa ?qIx ?x1 ?y1 ?x2 ?y2 ?x3 ?y3 ?x4 ?y4 ?x5 ?y5 ?z1 ?z2 ?z3 ?z4 ?z5 ?z6 ?z7 ?z8 ?z9 ?z10 ?z11 ?z12 ?z13 ?z14 ?z15 ?z16 ?z17 ?v1 ?v2 ?v3 ?v4 ?v5
    (case a1 => k_is)
    (case l1 => k_is)
    (case c1 => k_is)
    (case k1 => k_is)
    (case a2 => k_is)
    (case l2 => k_is)
    (case c2 => k_is)
    (case k2 => k_is)
    (case a3 => k_is)
    (case l3 => k_is)
    (case c3 => k_is)
    (case k3 => k_is)
    (case a4 => k_is)
    (case l4 => k_is)
    (case c4 => k_is)
    (case k4 => k_is)
    (case a5 => k_is)
    (case l5 => k_is)
    (case c5 => k_is)
    (case k5 => k_is)
    (case a6 => k_is)
    (case l6 => k_is)
    (case c6 => k_is)
    (case k6 => k_is)
    (case a7 => k_is)
    (case l7 => k_is)
    (case c7 => k_is)
    (case k7 => k_is)
    (case a8 => k_is)
    (case l8 => k_is)
    (case c8 => k_is)
    (case k8 => k_is)
    (case a9 => k_is)
    (case l9 => k_is)
    (case c9 => k_is)
    (case k9 => k_is)
    (case a10 => k_is)
    (case l10 => k_is)
    (case c10 => k_is)
    (case k10 => k_is)
    (case a11 => k_is)
    (case l11 => k_is)
    (case c11 => k_is)
    (case k11 => k_is)
    (case a12 => k_is)
    (case l12 => k_is)
    (case c12 => k_is)
    (case k12 => k_is)
    (case a13 => k_is)
    (case l13 => k_is)
    (case c13 => k_is)
    (case k13 => k_is)
    (case a14 => k_is)
    (case l14 => k_is)
    (case c14 => k_is)
    (case k14 => k_is)
    (case a15 => k_is)
    (case l15 => k_is)
    (case c15 => k_is)
    (case k15 => k_is)
    (case a16 => k_is)
    (case l16 => k_is)
    (case c16 => k_is)
    (case k16 => k_is)
    (case a17 => k_is)
    (case l17 => k_is)
    (case c17 => k_is)
    (case k17 => k_is)
    (case a18 => k_is)
    (case l18 => k_is)
    (case c18 => k_is)
    (case k18 => k_is)
    (case a19 => k_is)
    (case l19 => k_is)
    (case c19 => k_is)
    (case k19 => k_is)
    (case a20 => k_is)
    (case l20 => k_is)
    (case c20 => k_is)
    (case k20 => k_is)
    (case a21 => k_is)
    (case l21 => k_is)
    (case c21 => k_is)
    (case k21 => k_is)
    (case a22 => k_is)
    (case l22 => k_is)
    (case c22 => k_is)
    (case k22 => k_is)
    (case a23 => k_is)
    (case l23 => k_is)
    (case c23 => k_is)
    (case k23 => k_is)
    (case a24 => k_is)
    (case l24 => k_is)
    (case c24 => k_is)
    (case k24 => k_is)
    (case a25 => k_is)
    (case l25 => k_is)
    (case c25 => k_is)
    (case k25 => k_is)
    (case a26 => k_is)
    (case l26 => k_is)
    (case c26 => k_is)
    (case k26 => k_is)
    (case aM => k_is)
    (case aW => k_is)
    (case aMi => k_is)
    (case iMi => k_is)
    (case lMi => k_is)
    (case cMi => k_is)
    (case kMi => k_is)
    (case aWi => k_is)
    (case iWi => k_is)
    (case lWi => k_is)
    (case cWi => k_is)
    (case kWi => k_is)
    (case aEq => k_is)
    (case iEq => k_is)
    (case lEq => k_is)
    (case cEq => k_is)
    (case kEq => k_is)
    (case aLe => k_is)
    (case iLe => k_is)
    (case lLe => k_is)
    (case cLe => k_is)
    (case kLe => k_is)
    (case aSh => k_is)
    (case iSh => k_is)
    (case lSh => k_is)
    (case cSh => k_is)
    (case kSh => k_is)
    (case aIx => k_is)
    (case iIx => k_is)
    (case lIx => k_is)
    (case cIx => k_is)
    (case kIx => k_is)
    (case aIt => k_is)
    (case iIt => k_is)
    (case lIt => k_is)
    (case cIt => k_is)
    (case kIt => k_is)
    (case aSt => k_is)
    (case iSt => k_is)
    (case lSt => k_is)
    (case cSt => k_is)
    (case kSt => k_is)
    (case aPl => k_is)
    (case iPl => k_is)
    (case lPl => k_is)
    (case cPl => k_is)
    (case kPl => k_is)
    (case aLt => k_is)
    (case gLt => k_is)
    (case tLt => k_is)
    (case rLt => k_is)
    (case lLt => k_is)
    (case cLt => k_is)
    (case kLt => k_is)
    (case aRu => k_is)
    (case gRu => k_is)
    (case tRu => k_is)
    (case rRu => k_is)
    (case lRu => k_is)
    (case cRu => k_is)
    (case kRu => k_is)
    (case aSi => k_is)
    (case gSi => k_is)
    (case tSi => k_is)
    (case rSi => k_is)
    (case lSi => k_is)
    (case cSi => k_is)
    (case kSi => k_is)
    (case aOf => k_is)
    (case rOf => k_is)
    (case iOf => k_is)
    (case lOf => k_is)
    (case cOf => k_is)
    (case kOf => k_is)
    (case pgM => k_is)
    (case hdM => k_is)
    (case poM => k_is)
    (case saM => k_is)
    (case mkM => k_is)
    (case kcM => k_is)
    (case haM => k_is)
    (case hmM => k_is)
    (case pgW => k_is)
    (case hdW => k_is)
    (case poW => k_is)
    (case saW => k_is)
    (case mkW => k_is)
    (case kcW => k_is)
    (case haW => k_is)
    (case hmW => k_is)
    (case qHn => k_is)
    (case qHt => k_is)
    (case nC => k_is)
    (case nL => k_is)
    (case nR => k_is)
    (case iTM => first | k_is | kit_is)
    (case qNf => first | rfl | k_is)
    (case qOb => k_is)
    (case qNe => k_is)
    (case qRd => k_is)
    (case qGa => k_is)
    (case qIx => first | rfl | k_is)
    (case x1 => first | rfl | k_is)
    (case y1 => first | k_is | kit_is)
    (case x2 => first | rfl | k_is)
    (case y2 => first | k_is | kit_is)
    (case x3 => first | rfl | k_is)
    (case y3 => first | k_is | kit_is)
    (case x4 => first | rfl | k_is)
    (case y4 => first | k_is | kit_is)
    (case x5 => first | rfl | k_is)
    (case y5 => first | k_is | kit_is)
    (case z1 => k_is)
    (case z2 => k_is)
    (case z3 => k_is)
    (case z4 => k_is)
    (case z5 => k_is)
    (case z6 => k_is)
    (case z7 => k_is)
    (case z8 => k_is)
    (case z9 => k_is)
    (case z10 => k_is)
    (case z11 => k_is)
    (case z12 => k_is)
    (case z13 => k_is)
    (case z14 => k_is)
    (case z15 => k_is)
    (case z16 => k_is)
    (case z17 => k_is)
    (case v1 => k_is)
    (case v2 => k_is)
    (case v3 => k_is)
    (case v4 => k_is)
    (case v5 => k_is)

