import PyProof.Rows.All
import Wide.All
import OpenK.AllK
import Wide.FinOn
import HandS.ForMost
import HandS.SetBool
import PyProof.Rows.SortShellAny
import KE.GoesMore
import KE.GoesEnum
import HandS.Walk
import HandS.TupMul
import HandS.Codes
import HandS.IsInst
import HandS.Zip
import HandS.TupAny
import HandS.TupLe
import HandS.Conv
import HandS.Steps
import PySem.Challenge.RW_untoldgames_k16_whole_what_reaches_an_ai
set_option Elab.async false
set_option linter.all false
set_option maxRecDepth 100000
set_option maxHeartbeats 4000000
/-! Sets of texts: what stands there, a text more, a comprehension that makes one, sorted of it. -/
namespace Nm
open PySem PySem.Spec PyProof.Rows L2
section
variable {P : Program} {w : World} {A : Around} {E : Value → Shared → Prop} {s : Shared} {a : Addr} {o : Obj}
/-- the end of an addition: the set is stored, and laid out anew if it is too full -/
theorem tailG {g : Bool → Sem Unit} (hg : ∀ (b : Bool) (z : Shared) (U : Unit → Shared → Prop), U () z → wpAny (model P w) A (g b) U E z)
    {es fs : Array (Int × Value)} {ep : Nat} {t u : SetTable} {dm : Bool} {R : Option Bool → Shared → Prop}
    (ho : s.heap.get? a = some o) (hd : o.data = .set es ep t) (hb : fs.size < scanBound) (hf : u.fits fs.size = true) (hr : Ris u.place.toList)
    (hR : ∀ h' (es' : Array (Int × Value)) (ep' : Nat) (t' : SetTable), Heap.SameBut a s.heap h' → h'.get? a = some { o with data := .set es' ep' t' } → es'.toList.Perm fs.toList → t'.fits es'.size = true →
      Ris t'.place.toList → t'.led = u.led → R (some true) { s with heap := h' }) :
    wpAny (model P w) A (do
        storeSet a fs u
        if (!dm && u.tooFull) = true then do
            g (relayAll u fs (SetTable.grown fs.size)).2.2
            storeSet a (relayAll u fs (SetTable.grown fs.size)).1 (relayAll u fs (SetTable.grown fs.size)).2.1
            pure (some true)
          else pure (some true)) R E s := by
  have at1 := store_at (es' := fs) (t' := u) ho hd
  have same1 := Heap.SameBut.update s.heap a (Obj.putSet fs u)
  refine wpAny_bind (wpAny_storeSet_of ho hd ?_ (fits_of_scanBound hb))
  split
  · have perm := relayAll_perm u fs (SetTable.grown fs.size)
    have fit3 := relayAll_fits u fs (SetTable.grown fs.size)
    have ris3 := relayAll_ris u fs (SetTable.grown fs.size)
    have led3 := relayAll_led u fs (SetTable.grown fs.size)
    generalize relayAll u fs (SetTable.grown fs.size) = Z at perm fit3 ris3 led3 ⊢
    obtain ⟨gs, v, gave⟩ := Z
    dsimp only at perm fit3 ris3 led3 ⊢
    have size3 : gs.size = fs.size := by
      have q := perm.length_eq
      rwa [Array.length_toList, Array.length_toList] at q
    refine wpAny_bind (hg _ _ _ ?_)
    refine wpAny_bind (wpAny_storeSet_of at1 rfl ?_ (fits_of_scanBound (by rw [size3]; exact hb)))
    have at3 := store_at (es' := gs) (t' := v) at1 rfl
    exact wpAny_pure (hR _ gs _ v (same1.trans (Heap.SameBut.update _ a _)) at3 perm fit3 ris3 led3)
  · exact wpAny_pure (hR _ fs _ u same1 at1 (List.Perm.refl _) hf hr rfl)
/-- a key is added whose hash is known: it is there, or it comes in -/
theorem addG {κ : Type} [DecidableEq κ] {knd : PySem.KeyKind P w κ} {k : κ} {x : Value} {es : Array (Int × Value)} {ep : Nat} {t : SetTable} {Q : Bool → Shared → Prop}
    (hk : knd.is k x = true) (hx : x.scannable = true) (ho : s.heap.get? a = some o) (hd : o.data = .set es ep t) (hel : ElemsOf knd es.toList) (hb : es.size + 1 < scanBound) (hf : t.fits es.size = true) (hr : Ris t.place.toList)
    (old : (∃ e ∈ es.toList, knd.is k e.2 = true) → Q false s)
    (new : (∀ e ∈ es.toList, knd.is k e.2 = false) → ∀ h' (es' : Array (Int × Value)) (ep' : Nat) (t' : SetTable), Heap.SameBut a s.heap h' → h'.get? a = some { o with data := .set es' ep' t' } →
      es'.toList.Perm ((knd.hash k, x) :: es.toList) → t'.fits es'.size = true → Ris t'.place.toList → t'.led = t.led → Q true { s with heap := h' }) :
    wpAny (model P w) A (setAddHashed a x (knd.hash k)) Q E s := by
  unfold setAddHashed setAddHashedIn
  refine wpAny_holding (wpAny_bind (wpAny_setState_of ho hd hf ?_))
  dsimp only
  rw [byScan_of hx (Nat.lt_of_succ_lt hb) hel]
  simp only [↓reduceIte]
  unfold setAddByScan
  refine wpAny_bind (wpAny_bind (wpAny_rule ?_))
  refine wpAny_bind (wpAny_setScan_of hk ho hd hf hel ?_)
  cases met : List.findIdx? (fun e => knd.is k e.2) es.toList with
  | some j =>
    dsimp only
    obtain ⟨hj, pj, _⟩ := List.findIdx?_eq_some_iff_getElem.mp met
    exact wpAny_pure (wpAny_pure (old ⟨_, List.getElem_mem hj, pj⟩))
  | none =>
    dsimp only
    have no : ∀ e ∈ es.toList, knd.is k e.2 = false := fun e he => List.findIdx?_eq_none_iff.mp met e he
    have gw : ∀ (b : Bool) {z : Shared} {U : Unit → Shared → Prop}, U () z → wpAny (model P w) A (match b with | true => rule "set.scan.the-table-gave-way" | false => pure ()) U E z := fun b z U q => by
      cases b
      · exact wpAny_pure q
      · exact wpAny_rule q
    have perm := layNew_perm t es (knd.hash k) x
    have fit1 := layNew_fits t es (knd.hash k) x
    have ris1 := layNew_ris t es (knd.hash k) x hr
    have led1 := layNew_led t es (knd.hash k) x
    generalize layNew t es (knd.hash k) x = Z at perm fit1 ris1 led1 ⊢
    obtain ⟨fs, u, dm, gave⟩ := Z
    dsimp only at perm fit1 ris1 led1 ⊢
    rw [Array.toList_push] at perm
    have pc : fs.toList.Perm ((knd.hash k, x) :: es.toList) := perm.trans (List.perm_append_singleton _ _)
    have size1 : fs.size < scanBound := by
      have q := pc.length_eq
      rw [List.length_cons, Array.length_toList, Array.length_toList] at q
      omega
    have fin : ∀ (u' : SetTable), u'.led = u.led → ∀ h' (es' : Array (Int × Value)) (ep' : Nat) (t' : SetTable), Heap.SameBut a s.heap h' → h'.get? a = some { o with data := .set es' ep' t' } → es'.toList.Perm fs.toList →
        t'.fits es'.size = true → Ris t'.place.toList → t'.led = u'.led → Q true { s with heap := h' } := fun u' e h' es' ep' t' sb g p f r l =>
      new no h' es' ep' t' sb g (p.trans pc) f r (l.trans (e.trans led1))
    refine wpAny_bind (gw _ ?_)
    split
    · refine wpAny_bind ?_
      rw [hashByValue_scannable 8 hx]
      refine wpAny_pure ?_
      refine tailG ?_ ho hd size1 ?_ ?_ ?_
      · intro b z U q
        cases b
        · exact wpAny_pure q
        · exact wpAny_rule q
      · first
          | exact fit1
          | (split <;> first | exact fit1 | exact SetTable.fits_plain_off fit1)
      · first
          | exact ris1
          | (split <;> exact ris1)
      · intro h' es' ep' t' sb g p f r l
        dsimp only
        refine wpAny_pure (fin _ ?_ h' es' ep' t' sb g p f r l)
        first
          | rfl
          | (split <;> rfl)
    · refine wpAny_bind (wpAny_pure ?_)
      simp only [↓reduceIte]
      refine tailG ?_ ho hd size1 fit1 ris1 ?_
      · intro b z U q
        cases b
        · exact wpAny_pure q
        · exact wpAny_rule q
      · intro h' es' ep' t' sb g p f r l
        dsimp only
        exact wpAny_pure (fin u rfl h' es' ep' t' sb g p f r l)
end
/-! ### a set of texts -/
def nm (e : Int × Value) : Str := match e.2 with | .str x _ => x | _ => Str.empty
def Tx (w : World) (e : Int × Value) : Prop := ∃ x t, e.2 = Value.str x t ∧ e.1 = hashStr w x
/-- the set at a has just the texts ks, each once -/
def Has (w : World) (h : Heap) (a : Addr) (ks : List Str) : Prop :=
  ∃ o es ep t, h.get? a = some o ∧ o.ExactSet ∧ o.data = .set es ep t ∧ (∀ e ∈ es.toList, Tx w e) ∧ (es.toList.map nm).Perm ks ∧ ks.Nodup ∧ ks.length < scanBound ∧ t.fits es.size = true ∧ Ris t.place.toList ∧
    (w.params.followText "set-order" = true ∨ t.led = true)
def plus (ks : List Str) (k : Str) : List Str := if k ∈ ks then ks else k :: ks
section
variable {P : Program} {w : World} {A : Around} {E : Value → Shared → Prop} {s : Shared} {a : Addr} {ks : List Str} {h h' : Heap}
theorem Has.at (R : Has w h a ks) (k : ∀ o, h.get? a = some o → h'.get? a = some o) : Has w h' a ks := by
  obtain ⟨o, es, ep, t, ho, r⟩ := R
  exact ⟨o, es, ep, t, k o ho, r⟩
theorem tx_elems {l : List (Int × Value)} (g : ∀ e ∈ l, Tx w e) : ElemsOf (strKind P w) l := fun e he => by
  obtain ⟨x, t, e1, e2⟩ := g e he
  refine ⟨⟨x, ?_, e2⟩, ?_⟩
  · rw [e1]
    exact strKind_is P w x t
  · rw [e1]
    rfl
theorem tx_is {e : Int × Value} (g : Tx w e) (k : Str) : (strKind P w).is k e.2 = true ↔ nm e = k := by
  obtain ⟨x, t, e1, _⟩ := g
  have n : nm e = x := by unfold nm; rw [e1]
  rw [n, e1]
  constructor
  · intro q
    exact (strKind P w).inj _ _ _ (strKind_is P w x t) q
  · intro q
    subst q
    exact strKind_is P w x t
theorem size_of {es : Array (Int × Value)} (p : (es.toList.map nm).Perm ks) : es.size = ks.length := by
  have q := p.length_eq
  rwa [List.length_map, Array.length_toList] at q
/-- one text more -/
theorem add_raw {k : Str} {tk : Tok} {Q : Value → Shared → Prop} (R : Has w s.heap a ks) (room : ks.length + 1 < scanBound)
    (hQ : ∀ h', Heap.SameBut a s.heap h' → Has w h' a (plus ks k) → Q .none { s with heap := h', toks := s.toks + 1 }) :
    wpAny (model P w) A (call (.builtin "set.add") [.ref a, .str k tk]) Q E s := by
  obtain ⟨o, es, ep, t, ho, hex, hd, g, pm, nd, hb, hf, hr, hl⟩ := R
  have hsz := size_of pm
  have hS : s.TypeIs (.ref a) "set" := ⟨o, ho, hex.1⟩
  refine wpAny_call_entry F.slot_set_add hS F.entry_set_add ?_ (F.args_set_add_2 _ _)
  unfold Builtin.«set.add» Builtin.Frozenset.oneOther
  simp only [List.isEmpty_nil, bind_assoc]
  unfold Builtin.Frozenset.addrOf setAdd
  refine wpAny_bind (wpAny_pure ?_)
  try dsimp only
  refine wpAny_bind (wpAny_pure ?_)
  try dsimp only
  refine wpAny_bind (wpAny_holding (wpAny_bind ((strKind P w).pyHash (strKind_is P w k tk) ?_)))
  have mem : (∃ e ∈ es.toList, (strKind P w).is k e.2 = true) ↔ k ∈ ks := by
    rw [← pm.mem_iff, List.mem_map]
    exact ⟨fun ⟨e, he, q⟩ => ⟨e, he, (tx_is (g e he) k).1 q⟩, fun ⟨e, he, q⟩ => ⟨e, he, (tx_is (g e he) k).2 q⟩⟩
  refine addG (knd := strKind P w) (s := { s with toks := s.toks + 1 }) (strKind_is P w k tk) rfl ho hd (tx_elems g) (by rw [hsz]; exact room) hf hr ?_ ?_
  · intro there
    have hk : k ∈ ks := mem.1 there
    have ek : plus ks k = ks := if_pos hk
    refine wpAny_pure ⟨_, rfl, hQ s.heap (Heap.SameBut.refl a s.heap) ?_⟩
    rw [ek]
    exact ⟨o, es, ep, t, ho, hex, hd, g, pm, nd, hb, hf, hr, hl⟩
  · intro no h' es' ep' t' sb ho' p f r l
    have hk : k ∉ ks := fun z => by
      obtain ⟨e, he, q⟩ := mem.2 z
      rw [no e he] at q
      cases q
    have ek : plus ks k = k :: ks := if_neg hk
    refine wpAny_pure ⟨_, rfl, hQ h' sb ?_⟩
    rw [ek]
    refine ⟨_, es', ep', t', ho', hex, rfl, fun e he => ?_, ?_, List.nodup_cons.mpr ⟨hk, nd⟩, room, f, r, hl.imp id fun z => l.trans z⟩
    · rcases List.mem_cons.mp (p.mem_iff.mp he) with z | z
      · rw [z]
        exact ⟨k, tk, rfl, rfl⟩
      · exact g e z
    · exact (p.map nm).trans (pm.cons k)
theorem has_fresh {h : Heap} (w : World) : Has w (h.push { cls := .type "set", dict := none, data := .set #[] 0 (.fresh 0 0 (!w.params.followText "set-order")) }) h.objs.size [] := by
  refine ⟨_, #[], 0, _, Heap.get?_push_size _ rfl, ⟨rfl, rfl, rfl⟩, rfl, (fun e he => by simp at he), List.Perm.refl _, List.nodup_nil, by decide, by rfl, List.Pairwise.nil, ?_⟩
  show _ ∨ (!w.params.followText "set-order") = true
  cases w.params.followText "set-order" with
  | false => exact .inr rfl
  | true => exact .inl rfl
end
/-- a set of texts as a tracked thing -/
def TxO (w : World) (a : Addr) (ks : List Str) : HO := .ext fun h => Has w h a ks
theorem txO_new {w : World} {P : Program} {H : Hp} {h : Heap} {a : Addr} {ks : List Str} (R : Has w h a ks) : ObjOk P w H h a (TxO w a ks) := by
  have ⟨o, _, _, _, ho, _⟩ := R
  exact ⟨R, ⟨o, ho⟩, fun h1 h2 p k => Has.at p k⟩
section
variable {X : Cx}
theorem txO_get {pins : List (Addr × Obj)} {σ : L2.St} {H : Hp} {s : Shared} {a : Addr} {ks : List Str} (I : Inv X pins σ H s) (ha : H a = some (TxO X.w a ks)) : Has X.w s.heap a ks := (I.hok a _ ha).1
theorem add_ok {pins : List (Addr × Obj)} {σ : L2.St} {H : Hp} {s : Shared} {E : Value → Shared → Prop} {D : Addr} {ks : List Str} {k : Str} {tk : Tok} {Q : Value → Shared → Prop} (I : Inv X pins σ H s) (hD : H D = some (TxO X.w D ks)) (room : ks.length + 1 < scanBound)
    (q : ∀ s', Inv X pins σ (upd H D (TxO X.w D (plus ks k))) s' → Q .none s') : wpAny (model X.prog X.w) X.A (call (.builtin "set.add") [.ref D, .str k tk]) Q E s := by
  refine add_raw (txO_get I hD) room fun h' sb new => ?_
  have there : ∃ u, h'.get? D = some u := by
    obtain ⟨o, _, _, _, ho, _⟩ := new
    exact ⟨o, ho⟩
  exact q _ (I.write (e := D) (t' := s.toks + 1) (by rw [hD]; trivial) (.inl rfl) (fun b u hb hu => (sb.2 b hb).trans hu) there (txO_new new))
/-! ### sorted of it -/
def rSortTx (w : World) : List V → Hp → VK → Prop := fun vs H Q => ∃ (a : Addr) (ks : List Str), vs = [V.ref a] ∧ H a = some (TxO w a ks) ∧ ks.length < 64 ∧
  ∀ (ys : List Str) (p : Addr), ys.Perm ks → sortedS ys = true → H p = none → Q (.ref p) (upd H p (.lst (ys.map V.str)))
end
/-- all of them, each once -/
def gathered (xs : List Str) : List Str := xs.foldl plus []
theorem plus_mem {ks : List Str} {k x : Str} : x ∈ plus ks k ↔ x = k ∨ x ∈ ks := by
  unfold plus
  by_cases h : k ∈ ks
  · rw [if_pos h]
    exact ⟨.inr, fun z => z.elim (fun e => e ▸ h) id⟩
  · rw [if_neg h, List.mem_cons]
theorem plus_nd {ks : List Str} {k : Str} (nd : ks.Nodup) : (plus ks k).Nodup := by
  unfold plus
  by_cases h : k ∈ ks
  · rw [if_pos h]
    exact nd
  · rw [if_neg h]
    exact List.nodup_cons.mpr ⟨h, nd⟩
theorem plus_len (ks : List Str) (k : Str) : (plus ks k).length ≤ ks.length + 1 := by
  unfold plus
  by_cases h : k ∈ ks
  · rw [if_pos h]
    exact Nat.le_succ _
  · rw [if_neg h]
    exact Nat.le_refl _
theorem fold_facts : ∀ (xs ks : List Str), ks.Nodup → (xs.foldl plus ks).Nodup ∧ (∀ x, x ∈ xs.foldl plus ks ↔ x ∈ xs ∨ x ∈ ks) ∧ (xs.foldl plus ks).length ≤ ks.length + xs.length
  | [], ks, nd => ⟨nd, fun x => by simp, by simp⟩
  | k :: xs, ks, nd => by
    obtain ⟨h1, h2, h3⟩ := fold_facts xs (plus ks k) (plus_nd nd)
    refine ⟨h1, fun x => ?_, ?_⟩
    · rw [List.foldl_cons, h2 x, plus_mem, List.mem_cons]
      constructor
      · rintro (h | h | h)
        · exact .inl (.inr h)
        · exact .inl (.inl h)
        · exact .inr h
      · rintro ((h | h) | h)
        · exact .inr (.inl h)
        · exact .inl h
        · exact .inr (.inr h)
    · rw [List.foldl_cons, List.length_cons]
      have := plus_len ks k
      omega
theorem gathered_facts (xs : List Str) : (gathered xs).Nodup ∧ (∀ x, x ∈ gathered xs ↔ x ∈ xs) ∧ (gathered xs).length ≤ xs.length := by
  obtain ⟨h1, h2, h3⟩ := fold_facts xs [] List.nodup_nil
  refine ⟨h1, fun x => ?_, ?_⟩
  · show x ∈ xs.foldl plus [] ↔ _
    rw [h2 x]
    simp
  · show (xs.foldl plus []).length ≤ xs.length
    simpa using h3
theorem gathered_snoc (xs : List Str) (k : Str) : gathered (xs ++ [k]) = plus (gathered xs) k := by
  unfold gathered
  rw [List.foldl_append]
  rfl
end Nm
namespace Nm
open PySem PySem.Spec PyProof.Rows L2
section
variable {P : Program} {w : World} {A : Around} {E : Value → Shared → Prop} {s : Shared} {a : Addr}
theorem strs_of : ∀ (l : List Value) (ks : List Str), Paired (fun v k => ∃ t, v = Value.str k t) l ks → StrsAre l ks
  | _, _, .nil => .nil
  | _, _, .cons h r => by
    obtain ⟨t, e⟩ := h
    subst e
    exact .cons _ t (strs_of _ _ r)
def tx (v : Value) : Str := match v with | .str x _ => x | _ => Str.empty
theorem strs_tx : ∀ (l : List Value), (∀ v ∈ l, ∃ x t, v = Value.str x t) → StrsAre l (l.map tx)
  | [], _ => .nil
  | v :: l, h => by
    obtain ⟨x, t, e⟩ := h v List.mem_cons_self
    subst e
    exact .cons x t (strs_tx l fun u hu => h u (List.mem_cons_of_mem _ hu))
theorem sorted_raw {ks : List Str} {Q : Value → Shared → Prop} (R : Has w s.heap a ks) (hh : A.handled = none)
    (hQ : ∀ s' p (out : Array Value) (c : Nat) (ys : List Str), (∀ b o, s.heap.get? b = some o → s'.heap.get? b = some o) → s'.gens = s.gens → s'.os = s.os → s.heap.objs.size ≤ p →
      s'.heap.get? p = some (seqObj "list" out c) → StrsAre out.toList ys → ys.Perm ks → sortedS ys = true → Q (.ref p) s') :
    wpAny (model P w) A (call (.builtin "sorted") [.ref a]) Q E s := by
  obtain ⟨o, es, ep, t, ho, hex, hd, g, pm, nd, hb, hf, hr, hl⟩ := R
  have hsz := size_of pm
  refine Calls.call_function_entry kind_sorted plain_sorted entry_sorted (args_sorted1 _) ?_
  unfold Builtin.«sorted»
  refine wpAny_bind (m := checkCount "sorted" 1 1 _) (wpAny_pure ?_)
  refine wpAny_bind (collect_set (A := A.in1) hh ⟨o, ho, hex.1, hd⟩ hf (by rw [hsz]; exact hb) hr hl fun s1 vs k1 hz g1 o1 q => ?_)
  have len : vs.length ≤ sizeLine := by
    have z : vs.length = es.size := by rw [q.length_eq, List.length_map, Array.length_toList]
    rw [z, hsz]
    exact fits_of_scanBound hb
  have hS : StrsAre vs (vs.map tx) := strs_tx vs fun v hv => by
    obtain ⟨e, he, z⟩ := List.mem_map.mp (q.mem_iff.mp hv)
    obtain ⟨x, tk, h1, _⟩ := g e he
    exact ⟨x, tk, by rw [← z]; exact h1⟩
  have pk : (vs.map tx).Perm ks := by
    have z := q.map tx
    rw [List.map_map] at z
    exact z.trans pm
  refine wpAny_bind (wpAny_newList ?_ len)
  have hoL : (s1.heap.push (seqObj "list" vs.toArray 0)).get? s1.heap.objs.size = some (seqObj "list" vs.toArray 0) := Heap.get?_push_size _ rfl
  refine wpAny_bind (wpAny_holding (wpAny_call_entry slot_list_sort ⟨_, hoL, rfl⟩ entry_list_sort
    (list_sort_treeKAny strKind_oneLt hoL hS.keysOf (fun v₁ v₂ rest e => keyKind_strs (by rw [← e]; exact hS)) len fun st' hp hs => ?_) (args_list_sort _)))
  obtain ⟨ys, b1, b2, b3⟩ := sorted_out_str hS hp hs
  obtain ⟨c, hc⟩ := sortedHeap_at (vs := vs) (out := (arrOf st').map (·.2)) hoL
  refine ⟨_, rfl, wpAny_pure ⟨_, rfl, hQ _ s1.heap.objs.size _ c ys (fun b u e => ?_) g1 o1 hz hc b1 (b2.trans pk) b3⟩⟩
  have z := k1 b u e
  have lt := Heap.lt_size z
  show (sortedHeap (s1.heap.push (seqObj "list" vs.toArray 0)) s1.heap.objs.size vs ((arrOf st').map (·.2))).get? b = some u
  rw [sortedHeap_old (Nat.ne_of_lt lt) (by rw [size_push']; exact Nat.lt_succ_of_lt lt)]
  exact Heap.get?_push_of_some _ z
end
section
variable {X : Cx}
theorem cr_sortTx (hc : X.calm = true) : CallR X (.builtin "sorted") (rSortTx X.w) := by
  intro pins s σ H vs us Q I r h
  obtain ⟨a, ks, rfl, ha, h64, q⟩ := h
  rw [Vals.ref1 r]
  refine sorted_raw (txO_get I ha) (I.ok.hd hc) fun s' p out c ys k g o hp hg hS pm so => ?_
  have len : (ys.map V.str).length ≤ sizeLine := by
    rw [List.length_map, pm.length_eq]
    exact small64 h64
  have hn : H p = none := I.hok.fresh hp
  have J : Inv X pins σ (upd H p (.lst (ys.map V.str))) { s with heap := s'.heap, gens := s'.gens, drawn := s'.drawn, toks := s'.toks } :=
    I.call (ch := []) (Un.laid k hp hn) (I.hok.laid k hp ⟨len, out.toList, c, vals_of_strs hS, hg⟩) (by rw [g]; exact I.bare) (fun _ z => nomatch z)
  have e : s' = { s with heap := s'.heap, gens := s'.gens, drawn := s'.drawn, toks := s'.toks } := by
    cases s'
    cases s
    cases o
    rfl
  rw [e]
  exact ⟨.ref p, _, J, rfl, q ys p pm so hn⟩
end
end Nm
namespace Nm
open PySem PySem.Spec PyProof.Rows L2
section
variable {X : Cx}
/-- what a set display by a walk asks, its element being a text -/
def tNm (w : World) (wi : TI) (g : TG) (te : TE) (vs : List Nat) : TE := fun σ H Q => wi σ H fun J H1 => ∀ D, H1 D = none → ∃ W : Nat → Nat → Hp → Prop,
  (∃ m, W 0 m (upd H1 D (TxO w D []))) ∧ ∀ i m H, W i m H → (J.stop i H ∧ Q (.ref D) H) ∨ (J.go i H ∧ ∃ Nx : Hp → Prop, (∀ H', Nx H' → ∃ m', m' < m ∧ W (i + 1) m' H') ∧
    ∀ x H', J.yld i H x H' → g x (wipe σ vs) H' fun σ2 H2 => wipe σ2 vs = wipe σ vs ∧ te σ2 H2 fun y H4 =>
      ∃ (c : Str) (ks : List Str), y = .str c ∧ H4 D = some (TxO w D ks) ∧ ks.length + 1 < scanBound ∧ Nx (upd H4 D (TxO w D (plus ks c))))
/-- a new set as the model makes it -/
abbrev setObj (X : Cx) : Obj := { cls := .type "set", dict := none, data := .set #[] 0 (.fresh 0 0 (!X.w.params.followText "set-order")) }
theorem pe_nm {elt tg iter : Expr} {scope : Scope} {own : List (PySem.Str × Nat)} {pos : Pos} {wi : TI} {g : TG} {te : TE} (hc : X.calm = true) (hN : X.N.Nodup) (hi : PI X tg iter wi) (ok : BlkOk X.N X.env.scope scope own)
    (hg : ∀ (s : Shared) (H : Hp) (C : Addr) (cl : List (PySem.Str × Addr)) (fp : List Addr), PG (X.blk s H scope (compEnvC scope cl C X.env) fp) tg g)
    (he : ∀ (s : Shared) (H : Hp) (C : Addr) (cl : List (PySem.Str × Addr)) (fp : List Addr), PE (X.blk s H scope (compEnvC scope cl C X.env) fp) elt te)
    (hs : ∀ x, foldedSetIterable iter X.env x = pure x := by intro _; rfl) : PE X (.SetComp elt [⟨tg, iter, [], 0⟩] scope pos) (tNm X.w wi g te (own.map (·.2))) := by
  refine ⟨fun pins s σ H Q I h => ?_⟩
  rw [PpSet.eval_SetComp]
  have closed : ∀ y ∈ scope.names, y.2 = .free → ∃ c, X.env.cells.lookup y.1 = some c := fun y hy e => (ok.free y hy e).elim (fun k => I.ok.has _ (.inl k)) fun k => I.ok.has _ (.inr k)
  refine wpAny_comprehension_free (use := none) rfl hs (closure_ok closed) ok.kind (fun y hy e => by rw [ok.uniq y hy, e]) (thn (hi.run pins s σ H _ I h) fun xv s1 hx => thn hx fun itv s2 h2 => ?_)
  obtain ⟨it, fp, tn, J, H2, e, I2, T, st2, f2, q⟩ := h2
  subst e
  refine PpSet.newSet_ok (newEnv_comp ?_)
  generalize hD : s2.heap.objs.size = D
  have hDn : H2 D = none := I2.hok.fresh (Nat.le_of_eq hD)
  obtain ⟨W, ⟨m0, w0⟩, turn⟩ := q D hDn
  generalize hs3 : ({ s2 with heap := s2.heap.push (setObj X) } : Shared) = s3
  have h3 : s3.heap = s2.heap.push (setObj X) := by rw [← hs3]
  generalize hH3 : upd H2 D (TxO X.w D []) = H3 at w0
  have I3 : Inv X pins σ H3 s3 := by
    rw [← hs3, ← hH3]
    refine I2.laid (t' := s2.toks) (fun b o e => Heap.get?_push_of_some _ e) (Nat.le_of_eq hD) ?_
    rw [← hD]
    exact txO_new (has_fresh X.w)
  have below : ∀ b ∈ fp, b < s2.heap.objs.size := fun b hb => by
    obtain ⟨o, e, _⟩ := T.obj _ _ st2 b hb
    exact Heap.lt_size e
  have f3 : ∀ b ∈ fp, FpOk X pins H3 b ∧ b < s3.heap.objs.size := fun b hb => by
    have lt := below b hb
    have ne : b ≠ D := by rw [← hD]; exact Nat.ne_of_lt lt
    refine ⟨⟨?_, (f2 b hb).2⟩, by rw [h3, Heap.size_push]; exact Nat.lt_succ_of_lt lt⟩
    rw [← hH3, upd_ne ne]
    exact (f2 b hb).1
  have st3 : tn 0 s3.heap := T.keep _ _ _ st2 fun b _ o e => by rw [h3]; exact Heap.get?_push_of_some _ e
  have I4 := block_start I3 ok hN f3
  generalize hcl : cellsFrom (s3.heap.objs.size + 1) scope.names (cloFrom X.env.cells scope.names []) = cl at I4
  have pg := hg s3 H3 s3.heap.objs.size cl fp
  have pe := he s3 H3 s3.heap.objs.size cl fp
  have goal : codeAny (model X.prog X.w) X.A (.compStart (.SetComp elt [⟨tg, iter, [], 0⟩] scope pos) 0 (.ref it) (.ref D) (compEnvC scope cl s3.heap.objs.size X.env))
      (compPost (model X.prog X.w) X.A X.xe none (EP X pins σ Q) (.ref D) s3.heap.objs.size) { s3 with heap := pushCells (s3.heap.push { cls := .type "dict", data := .dict #[] }) scope.names } := by
    have free3 : ∀ b ∈ fp, H3 b = none := fun b hb => (f3 b hb).1.1
    generalize hce : compEnvC scope cl s3.heap.objs.size X.env = ce at I4 pg pe ⊢
    have locals : ce.locals = s3.heap.objs.size := by subst hce; rfl
    generalize hs4 : ({ s3 with heap := pushCells (s3.heap.push { cls := .type "dict", data := .dict #[] }) scope.names } : Shared) = s4 at I4 ⊢
    have st4 : tn 0 s4.heap := T.keep _ _ _ st3 fun b _ o e => by rw [← hs4]; exact pushCells_keeps _ _ _ _ (Heap.get?_push_of_some _ e)
    have stat : ∀ {σ' : L2.St} {H' : Hp} {s' : Shared}, Inv (X.blk s3 H3 scope ce fp) [] σ' H' s' → (∀ b ∈ fp, H' b = none) → ∀ b ∈ fp, FpOk (X.blk s3 H3 scope ce fp) [] H' b := fun {σ' H' s'} I' hn b hb =>
      ⟨hn b hb, (I'.ok.exf b hb).1, I'.ok.exfs b hb, .inl hb, fun x c e => (I'.ok.exf b hb).2 x c e, fun p hp => absurd (show p ∈ ([] : List (Addr × Obj)) ++ [] from hp) (by simp)⟩
    have loop : codeAny (model X.prog X.w) X.A (.compLoop (.SetComp elt [⟨tg, iter, [], 0⟩] scope pos) 0 (.ref it) (.ref D) ce) (compPost (model X.prog X.w) X.A X.xe none (EP X pins σ Q) (.ref D) s3.heap.objs.size) s4 := by
      refine PpSet.compLoopS_any (fun n s' => ∃ i H', Inv (X.blk s3 H3 scope ce fp) [] (wipe σ (own.map (·.2))) H' s' ∧ tn i s'.heap ∧ (∀ b ∈ fp, H' b = none) ∧ W i n H') ?_ m0 ⟨0, H3, I4, st4, free3, w0⟩
      rintro n s5 ⟨i, H5, I5, st5, n5, w5⟩
      rcases turn i n H5 w5 with ⟨stop, qq⟩ | ⟨go, Nx, hNx, step⟩
      · refine thnF (T.done (X.blk s3 H3 scope ce fp) rfl rfl rfl hc i [] s5 _ H5 (fun _ _ => False) I5 (stat I5 n5) st5 stop) fun r s6 ⟨hr, I6⟩ => ?_
        subst hr
        have I7 : Inv X pins σ H5 s6 := I3.call' (ch := fp) I6.os I6.base I6.hok I6.bare fun b hb => by
          have z := (f3 b hb).1
          exact ⟨z.2.2.2.1, z.2.1, z.2.2.2.2.1, z.2.2.2.2.2⟩
        have nC : H5 s3.heap.objs.size = none := by
          rw [← locals]
          exact I6.free
        obtain ⟨m, hn, _⟩ := I6.loc
        have hn' : s6.heap.Ns s3.heap.objs.size m := by
          rw [← locals]
          exact hn
        refine ⟨m, hn', fun h'' sb => ?_⟩
        obtain ⟨z0, z1, z2, z3, z4, z5⟩ := I3.fpOk (Nat.le_refl _) nC
        exact ⟨.ref D, H5, I7.turned (t' := s6.toks) (fun b o hb e => (sb.2 b hb).trans e) z0 z1 z3 z4 z5, rfl, qq⟩
      · refine thnF (T.item (X.blk s3 H3 scope ce fp) rfl rfl rfl hc i [] s5 _ H5 (fun _ _ => False) I5 (stat I5 n5) st5 go) fun r s6 ⟨u, hr, h6⟩ => ?_
        subst hr
        refine thnF h6 fun _ s7 ⟨x, H7, I7, r7, y7, st7, n7⟩ => ?_
        have I7' := I7.pinned (stat I7 n7) (T.obj _ _ st7)
        refine thnF (pg.run _ s7 _ H7 x u _ I7' r7 (step x H7 y7)) fun _ s8 ⟨σ8, H8, I8, hw8, q8⟩ => ?_
        refine wpAny_pure ?_
        rw [if_pos rfl]
        refine thnF (pe.run _ s8 σ8 H8 _ I8 q8) fun z s10 ⟨yv, H10, I10, r10, c, ks, ey, hD10, room, nx⟩ => ?_
        subst ey
        obtain ⟨tk, ez⟩ := (show ∃ t, z = Value.str c t from r10)
        subst ez
        refine add_ok (X := X.blk s3 H3 scope ce fp) I10 hD10 room fun s11 I11 => ?_
        obtain ⟨m', hm, w'⟩ := hNx _ nx
        have pin' : ∀ b ∈ fp, ∀ o, s7.heap.get? b = some o → s11.heap.get? b = some o ∧ upd H10 D (TxO (X.blk s3 H3 scope ce fp).w D (plus ks c)) b = none := fun b hb o e =>
          let z := I11.pin (b, o) (List.mem_append_right _ (List.mem_append_right _ (mem_pinsAt hb e)))
          ⟨z.1, z.2.1⟩
        have len : (wipe σ (own.map (·.2))).length = σ8.length := by rw [← hw8, wipe_length]
        refine ⟨m', hm, i + 1, _, (I11.unpinned (pins := [])).weak len (fun j v e => ?_), T.keep _ _ _ st7 fun b hb o e => (pin' b hb o e).1, fun b hb => ?_, w'⟩
        · rw [← hw8] at e
          exact (wipe_some e).1
        · obtain ⟨o, e, _⟩ := T.obj _ _ st7 b hb
          exact (pin' b hb o e).2
    exact PpSet.codeAny_compStart_set loop (T.self X.A 0 _ _ _ st4 loop)
  exact goal
/-- over a tuple that stands still -/
theorem nm_tup {w : World} {K : PySem.W.Frag} {a : Addr} {xs : List V} {g : TG} {te : TE} {vs : List Nat} {σ : L2.St} {H1 : Hp} {D : Addr} {Qd : Hp → Prop} (Pv : Nat → Hp → Prop) (h0 : Pv 0 (upd H1 D (TxO w D [])))
    (hl : ∀ i H, i ≤ xs.length → Pv i H → SqT K H a xs)
    (hs : ∀ i x H, xs[i]? = some x → Pv i H → g x (wipe σ vs) H fun σ2 H2 => wipe σ2 vs = wipe σ vs ∧ te σ2 H2 fun y H4 =>
      ∃ (c : Str) (ks : List Str), y = .str c ∧ H4 D = some (TxO w D ks) ∧ ks.length + 1 < scanBound ∧ Pv (i + 1) (upd H4 D (TxO w D (plus ks c)))) (hd : ∀ H, Pv xs.length H → Qd H) :
    ∃ W : Nat → Nat → Hp → Prop, (∃ m, W 0 m (upd H1 D (TxO w D []))) ∧ ∀ i m H, W i m H → ((Itt K a).stop i H ∧ Qd H) ∨ ((Itt K a).go i H ∧ ∃ Nx : Hp → Prop, (∀ H', Nx H' → ∃ m', m' < m ∧ W (i + 1) m' H') ∧
      ∀ x H', (Itt K a).yld i H x H' → g x (wipe σ vs) H' fun σ2 H2 => wipe σ2 vs = wipe σ vs ∧ te σ2 H2 fun y H4 =>
        ∃ (c : Str) (ks : List Str), y = .str c ∧ H4 D = some (TxO w D ks) ∧ ks.length + 1 < scanBound ∧ Nx (upd H4 D (TxO w D (plus ks c)))) := by
  refine ⟨fun i m H => m = xs.length - i ∧ i ≤ xs.length ∧ Pv i H, ⟨xs.length, by simp, Nat.zero_le _, h0⟩, ?_⟩
  rintro i m H ⟨rfl, hi, p⟩
  have q := hl i H hi p
  rcases Nat.lt_or_ge i xs.length with lt | ge
  · refine .inr ⟨⟨xs, xs[i], q, by simp [lt]⟩, Pv (i + 1), fun H' p' => ⟨xs.length - (i + 1), by omega, rfl, lt, p'⟩, fun x H' y => ?_⟩
    obtain ⟨e, y⟩ := y
    subst e
    exact hs i x _ (y xs q) p
  · have e : i = xs.length := by omega
    subst e
    exact .inl ⟨⟨xs, q, Nat.le_refl _⟩, hd H p⟩
end
end Nm
namespace Nm
open PySem PySem.Spec PyProof.Rows L2
open Sem (wp)
abbrev enumObj (it : Addr) : Obj := { cls := .type "enumerate", data := .fields #[.none, .bool false, .ref it, rawInt 0, .none, .none] }
theorem meets_enum1 {v : Value} {o : Obj} {G : Heap → Prop} (B : Begins v o G) :
    Meets (Builtin.«enumerate.__new__» ⟨[.type "enumerate", v], []⟩) (fun _ R s => G s.heap ∧ R (.ok (.ret (.ref (s.heap.push o).objs.size))) { s with heap := (s.heap.push o).push (enumObj s.heap.objs.size) }) :=
  .of_wp fun prog w A R s h => by
    obtain ⟨hp, g, d, tk, os⟩ := s
    obtain ⟨h1, h⟩ := h
    have sub := sub_enumerate
    have begins : ∀ {A' : Around} {E : Value → Shared → Prop} {Q : Value → Shared → Prop}, Q (.ref hp.objs.size) ⟨hp.push o, g, d, tk, os⟩ → wpAny (model prog w) A' (pyIter v) Q E ⟨hp, g, d, tk, os⟩ := fun q => B.iter prog w _ _ ⟨hp, g, d, tk, os⟩ _ h1 q
    wp_walk
    refine wpAny_stack_any fun st => wpAny_pure ?_
    split
    · rename_i c _ _ _ _ _
      cases (c == Value.type "enumerate") <;> (wp_walk using begins; exact ⟨_, rfl, h⟩)
    · wp_walk using begins
      exact ⟨_, rfl, h⟩
section
variable {prog : Program} {w : World} {A : Around} {E : Value → Shared → Prop} {s : Shared}
theorem call_enum1 {v : Value} {o : Obj} {G : Heap → Prop} {Q : Value → Shared → Prop} (B : Begins v o G) (h1 : G s.heap)
    (h : ∀ h', IsEnum h' (s.heap.objs.size + 1) s.heap.objs.size 0 .none → h'.get? s.heap.objs.size = some o → h'.objs.size = s.heap.objs.size + 2 → (∀ b u, s.heap.get? b = some u → h'.get? b = some u) →
      Q (.ref (s.heap.objs.size + 1)) { s with heap := h' }) : wpAny (model prog w) A (call (.type "enumerate") [v]) Q E s := by
  have one : (s.heap.push o).objs.size = s.heap.objs.size + 1 := Heap.size_push ..
  have made : IsEnum ((s.heap.push o).push (enumObj s.heap.objs.size)) (s.heap.objs.size + 1) s.heap.objs.size 0 .none := by
    have q := Heap.get?_push_size (s.heap.push o) (o := enumObj s.heap.objs.size) rfl
    rw [one] at q
    exact q
  refine callType_new F.called_enumerate (by decide) (F.typeCall_enumerate_1 _) (F.newCall_enumerate_1 _) (fun obj => F.args_object_init_2 obj _) F.entry_enumerate_new (meets_enum1 B) ⟨h1, ?_⟩
  show _ ∧ _
  rw [one]
  exact ⟨⟨_, made, rfl⟩, h _ made (Heap.get?_push_of_some _ (Heap.get?_push_size _ B.free)) (by rw [Heap.size_push, one]) fun b u x => Heap.get?_push_of_some _ (Heap.get?_push_of_some _ x)⟩
end
/-- enumerate of a tuple that stands still: each item in a new pair -/
def Itu (K : PySem.W.Frag) (a : Addr) : It :=
  ⟨fun i H => ∃ (xs : List V) (x : V), SqT K H a xs ∧ xs[i]? = some x,
   fun i H v H' => ∃ T x, v = .ref T ∧ H T = none ∧ H' = upd H T (.tup [.int (i : Nat), x]) ∧ ∀ xs, SqT K H a xs → xs[i]? = some x,
   fun i H => ∃ xs : List V, SqT K H a xs ∧ xs.length ≤ i⟩
theorem turn_itu {P : Program} {w : World} {K : PySem.W.Frag} {elts : List Expr} {kk : Nat} {tpos : Pos} (a e it : Addr) (hei : e ≠ it) (hea : e ≠ a) (hia : a ≠ it) :
    Turn P w K (.Tuple elts kk tpos) (Itu K a) [e, it] e (fun i h => (∃ old, IsEnum h e it ((i : Nat) : Int) old) ∧ h.IsTupleIter it a i) where
  mem := by simp
  obj := fun i h st b hb => by
    obtain ⟨⟨old, he⟩, ⟨o, ho, hc, hd⟩⟩ := st
    rcases (show b = e ∨ b = it by simpa using hb) with z | z
    · rw [z]
      exact ⟨_, he, fun v q => nomatch q⟩
    · rw [z]
      exact ⟨o, ho, fun v q => by rw [hd] at q; cases q⟩
  keep := fun i h h' st k => ⟨st.1.imp fun old he => k e (by simp) _ he, st.2.at fun o q => k it (by simp) o q⟩
  item := by
    intro X hP hw hK hc i pins s σ H E I hf st hg
    subst hP hw hK
    obtain ⟨⟨old, he⟩, hit⟩ := st
    obtain ⟨xs, x, hq, hx⟩ := hg
    obtain ⟨its, rv, p, hz⟩ := I.tuple hq
    obtain ⟨u, hu, ru⟩ := rv.get hx
    have lte : e < s.heap.objs.size := Heap.lt_size he
    have lti : it < s.heap.objs.size := by
      obtain ⟨_, q, _⟩ := hit
      exact Heap.lt_size q
    have li : i < its.toArray.size := by
      have q := (List.getElem?_eq_some_iff.mp hu).1
      simpa using q
    refine wpAny_pyNext_enum_itemD (Draws.tuple (A := X.A.in1) (I.ok.hd hc) it a hia its.toArray) he ⟨hit, p⟩ li hei (by simp [hei, hea]) fun y h' tk hy ho hst' hT hsz hk => ?_
    have ey : y = u := by
      rw [show its.toArray[i]? = some u by simpa using hu] at hy
      exact (Option.some.inj hy).symm
    subst ey
    refine ⟨_, rfl, wpAny_letOwnedTupleGo_enum (s := { s with heap := h', toks := tk + 1 }) ho fun h'' he' sb => ?_⟩
    have hT2 : h''.get? s.heap.objs.size = some { cls := .type "tuple", data := .seq #[.int i tk, y] } := (sb.2 _ (Nat.ne_of_gt lte)).trans hT
    have new : ObjOk X.prog X.w (upd H s.heap.objs.size (.tup [.int (i : Nat), x])) h'' s.heap.objs.size (.tup [.int (i : Nat), x]) :=
      ⟨by show 2 ≤ sizeLine; decide, [.int i tk, y], .cons ⟨_, rfl⟩ (.cons ru .nil), ⟨_, hT2, rfl, _, rfl⟩⟩
    have I1 : Inv X pins σ (upd H s.heap.objs.size (.tup [.int (i : Nat), x])) { s with heap := h'', toks := tk + 1 } :=
      I.turnedNew (ch := [e, it]) (fun b ob hb q => (sb.2 b (fun z => hb (by simp [z]))).trans (hk b ob (fun z => hb (by simp [z])) (fun z => hb (by simp [z])) q)) hf (Nat.le_refl _) new
    refine ⟨.ref s.heap.objs.size, _, I1, rfl, ⟨_, x, rfl, I.hok.fresh (Nat.le_refl _), rfl, fun ys hys => by rw [I.tuple_inj hys hq]; exact hx⟩, ⟨⟨y, ?_⟩, hst'.1.at fun o q => (sb.2 it (Ne.symm hei)).trans q⟩, fun b hb => ?_⟩
    · rw [show ((i + 1 : Nat) : Int) = (i : Int) + 1 by omega]
      exact he'
    · have lt : b < s.heap.objs.size := by
        rcases (show b = e ∨ b = it by simpa using hb) with z | z
        · rw [z]; exact lte
        · rw [z]; exact lti
      rw [upd_ne (Nat.ne_of_lt lt)]
      exact (hf b hb).1
  done := by
    intro X hP hw hK hc i pins s σ H E I hf st hg
    subst hP hw hK
    obtain ⟨⟨old, he⟩, hit⟩ := st
    obtain ⟨xs, hq, hx⟩ := hg
    obtain ⟨its, rv, p, hz⟩ := I.tuple hq
    obtain ⟨f0, f1, f2, f3, f4, f5⟩ := hf it (by simp)
    have hl := rv.length
    have D : Draws X.prog X.w X.A.in1 it [it, a] i (fun _ _ => True) (fun j h => j = i ∧ h.IsTupleIter it a j ∧ h.IsTuple a its.toArray) := by
      have T := Draws.tuple (prog := X.prog) (w := X.w) (A := X.A.in1) (I.ok.hd hc) it a hia its.toArray
      exact {
        live := fun j h z => T.live j h z.2
        frame := fun j h h' z k => ⟨z.1, T.frame j h h' z.2 k⟩
        item := fun j s Q E hj st hQ => absurd hj (by rw [st.1]; exact Nat.lt_irrefl _)
        done := fun s Q E st hE => wpAny_nextOf_tuple_end (I.ok.hd hc) st.2.1 st.2.2 (by simp; omega) hE }
    exact wpAny_pyNext_enum_endD D he ⟨rfl, hit, p⟩ fun h' eb => ⟨rfl, I.turned (t' := s.toks) (fun b o hb q => eb b o hb q) f0 f1 f3 f4 f5⟩
  self := fun A i s Q E st h => let ⟨⟨_, he⟩, _⟩ := st; wpAny_pyIter_enum he h
/-- for i, x in enumerate(t), t a tuple -/
def iEnuT (K : PySem.W.Frag) (ta : TA) : TI := fun σ H R => ta σ H fun vs H1 => ∃ a xs, vs = [.ref a] ∧ SqT K H1 a xs ∧ R (Itu K a) H1
theorem pi_enuT {X : Cx} {e : Expr} {ta : TA} {p pos tpos : Pos} {elts : List Expr} {kk : Nat} (hg : Gl X "enumerate") (hm : X.mg "enumerate" = none) (ha : PA X [e] ta) (hs : starEach [e] X.env = [(false, eval e X.env)] := by rfl) :
    PI X (.Tuple elts kk tpos) (.Call (.Name "enumerate" p) [e] [] pos) (iEnuT X.K ta) := by
  refine ⟨fun pins s σ H R I h => ?_⟩
  refine Call_ (ld_blt I hg hm boot_enumerate (PyProof.Rows.callWith_type1 (thn (ha.run pos pins s σ H _ I h) fun us s1 ⟨vs, H1, I1, r1, q1⟩ => ?_) hs rfl))
  obtain ⟨a, xs, ex, hq, q⟩ := q1
  subst ex
  cases r1 with
  | cons r rr =>
    cases rr
    cases r
    obtain ⟨its, rv, p', hz⟩ := I1.tuple hq
    have lta : a < s1.heap.objs.size := by
      obtain ⟨o, ho, _⟩ := id p'
      exact Heap.lt_size ho
    refine call_enum1 (begins_tuple a its.toArray) p' fun h' he hit hsz hk => wpAny_pyIter_enum he ?_
    have I2 : Inv X pins σ H1 { s1 with heap := h' } := I1.kept (t' := s1.toks) hk
    refine ⟨s1.heap.objs.size + 1, [s1.heap.objs.size + 1, s1.heap.objs.size], _, _, H1, rfl, I2,
      turn_itu a (s1.heap.objs.size + 1) s1.heap.objs.size (Nat.succ_ne_self _) (Nat.ne_of_gt (Nat.lt_succ_of_lt lta)) (Nat.ne_of_lt lta), ⟨⟨.none, he⟩, ⟨_, hit, rfl, rfl⟩⟩, fun b hb => ?_, q⟩
    have le : s1.heap.objs.size ≤ b := by
      rcases (show b = s1.heap.objs.size + 1 ∨ b = s1.heap.objs.size by simpa using hb) with z | z
      · rw [z]; exact Nat.le_add_right _ _
      · rw [z]; exact Nat.le_refl _
    exact I1.fpOk le (I1.hok.fresh le)
theorem walk_itu {K : PySem.W.Frag} {a : Addr} {xs : List V} : Walk (Itu K a) xs.length (fun H => SqT K H a xs) (YPair (fun i => some (.int (i : Nat))) (fun i => xs[i]?)) := by
  refine ⟨fun i _ hi q => ⟨xs, xs[i], q, by simp [hi]⟩, fun _ q => ⟨xs, q, Nat.le_refl _⟩, fun i H v H' _ q y => ?_⟩
  obtain ⟨T, x, h1, h2, h3, h4⟩ := y
  exact ⟨T, .int (i : Nat), x, h1, h2, h3, rfl, h4 xs q⟩
end Nm
namespace Nm
open PySem PySem.Spec PyProof.Rows L2
/-- t * 1 is t itself -/
theorem tuple_mul1 (l : Addr) (items : Array Value) (n : Nat) (dd : Option Addr) (sl : Array (Option Value)) (u : Tok) :
    Meets (Builtin.«tuple.__mul__» ⟨[.ref l, .int 1 u], []⟩) (fun _ R s => s.heap.get? l = some { cls := .type "tuple", dict := dd, data := .seq items n, slots := sl } ∧ R (.ok (.ret (Value.ref l))) s) :=
  .of_wp fun prog w A R s h => by
    obtain ⟨hp, g, d, tk, os⟩ := s
    obtain ⟨hl, h⟩ := h
    have f1 := AutoSeq1.idx_int
    have c0 : (decide ((1 : Int) < -(2 ^ 63)) || decide ((1 : Int) ≥ 2 ^ 63)) = false := by decide
    have c1 : (items.isEmpty || (1 : Int) == 1) = true := by cases items.isEmpty <;> rfl
    wp_walk using wpAny_loadPart' hl
    exact ⟨_, rfl, h⟩
def rRep1 (K : PySem.W.Frag) : R2 := fun x y H Q => ∃ l xs, x = .ref l ∧ y = .int 1 ∧ SqT K H l xs ∧ Q (.ref l) H
def rBlCount (K : PySem.W.Frag) : V → List V → Hp → VK → Prop := fun x xs H Q => ∃ (p : Addr) (bs : List Bool) (c : Bool), x = .ref p ∧ xs = [.bl c] ∧ SqL K H p (bs.map V.bl) ∧ Q (.int (bs.count c : Nat)) H
section
variable {X : Cx}
theorem op_rep1 : OpR X (binaryOp .Mult) (rRep1 X.K) := by
  intro pins s σ H x y v u Q I rx ry h
  obtain ⟨l, xs, rfl, rfl, hT, q⟩ := h
  cases rx
  obtain ⟨t, rfl⟩ := ry
  obtain ⟨its, r, ⟨⟨cls, dd, data, sl⟩, ho, hc, n, hd⟩, hs⟩ := I.tuple hT
  simp only at hc hd
  subst hc hd
  refine wpAny_binaryOp_repeat_ref (T := "tuple") (U := "int") (by decide) ⟨_, ho, rfl⟩ (fun s' => typeIs_int s' 1 t) noFill_tuple_mul F.fills_int_mul F.slot_int_rmul repeat_tuple F.slot_int_index.lookup
    (call_meets F.slot_int_rmul (typeIs_int s 1 t) F.entry_int_rmul (F.args_int_rmul_2 _ _) (int_rmul_tuple 1 t l its.toArray n dd sl)
      ⟨ho, rfl, ⟨_, ho, rfl⟩, call_meets F.slot_tuple_mul ⟨_, ho, rfl⟩ F.entry_tuple_mul (F.args_tuple_mul_2 _ _) (tuple_mul1 l its.toArray n dd sl t) ⟨ho, ⟨.ref l, H, I, rfl, q⟩⟩⟩)
def isBl (c : Bool) (v : Value) : Bool := match v with | .bool b => b == c | _ => false
theorem mt_blcount : MtR X "list.count" (rBlCount X.K) := by
  intro pins s σ H x xs v us Q I rx rxs h
  obtain ⟨p, bs, c, rfl, rfl, hs, q⟩ := h
  cases rx
  obtain ⟨u, rfl, ru⟩ := rxs.one
  obtain rfl : u = Value.bool c := ru
  obtain ⟨its, rv, ⟨⟨cls, dd, data, sl⟩, n, ho, hc, hdn, hd⟩, hlen⟩ := I.list hs
  simp only at hc hd
  subst hc hd
  have eb := Vals.bls rv
  refine call_meets PySem.F.slot_list_count ⟨_, ho, rfl⟩ PySem.F.entry_list_count (PySem.F.args_list_count_2 _ _) (SeqAt.list_countAt p its.toArray n dd sl (.bool c) (isBl c)) ⟨ho, fun y hy => ?_, ?_⟩
  · have hm : y ∈ its := by simpa using hy
    rw [eb] at hm
    obtain ⟨b, _, rfl⟩ := List.mem_map.mp hm
    exact SeqAt.EqAt.bool_bool b c
  · have ec : its.toArray.toList.countP (isBl c) = bs.count c := by
      show its.countP (isBl c) = _
      rw [eb, List.countP_map]
      rfl
    refine ⟨.int (bs.count c : Nat), H, I.tok _, ⟨s.toks, ?_⟩, q⟩
    show Value.int ((its.toArray.toList.countP (isBl c) : Nat) : Int) s.toks = Value.int ((bs.count c : Nat) : Int) s.toks
    rw [ec]
/-- nothing is asked that could be met: an expression that is never reached -/
theorem pe_never {e : Expr} : PE X e (fun _ _ _ => False) := ⟨fun _ _ _ _ _ _ h => h.elim⟩
end
end Nm
namespace Nm
open PySem PySem.Spec PyProof.Rows L2
open C8 (Cal Mak pe_c pe_mk pe_gc)
open RZ (ItzT pi_zipA)
/-- a def of the text that stands under its name -/
def Top (K : PySem.W.Frag) (mg : Str → Option Value) (x : Str) (st : Stmt) : Prop := ∃ f fd, Fun K x x st f fd ∧ mg x = some (.ref f)
section
variable {P : Program} {w : World} {K : PySem.W.Frag} {mg : Str → Option Value} {base : Heap}
theorem cal_of {x : Str} {st : Stmt} {N ps : List Str} {k : Nat} {sp : Sp} (D : Top K mg x st) (S : FnScope N ps (defScope st))
    (hb : ∀ (kV doc pm : Value) (an : Option Addr) (cdv ct : Value) (us : List Value), us.length = ps.length → bindArgs (PySem.W.fnOf x x (defArgs st) (defBody st) (defScope st) .none kV doc pm an cdv ct) ⟨us, []⟩ = pure (ps.zip us))
    (len : ∀ vs H Q E, sp vs H Q E → vs.length = ps.length)
    (body : ∀ (f : Addr) (cdv : Value) (A : Around) (outer : List Env) (s : Shared) (H : Hp) (vs : List V) (Q : VK) (E : XK), Room k (A.deeper (envOfC x (defScope st) s.heap.objs.size f cdv)) → sp vs H Q E →
      ∃ t, PSs (cxOf CX0 P w K mg base N x (defScope st) f cdv A outer s H E).nox (defBody st) t ∧ t { nx := fun _ H' => Q .non H', rt := Q } (start N vs) H) : Cal P w K mg base (k + 1) x sp [] := by
  obtain ⟨f, fd, F, hm⟩ := D
  exact ⟨f, fd, ps, [], F.ok S len fun cdv A outer s H vs Q E hr h => body f cdv A outer s H vs Q E hr h, hm, F.kp, F.binds hb, .nil⟩
end
theorem cal_mono {P : Program} {w : World} {K : PySem.W.Frag} {mg : Str → Option Value} {base : Heap} {k : Nat} {x : Str} {sp sp' : Sp} (c : Cal P w K mg base k x sp []) (h : ∀ vs H Q E, sp' vs H Q E → sp vs H Q E) : Cal P w K mg base k x sp' [] := by
  obtain ⟨f, fd, ps, ds, F, hm, kp, b, d⟩ := c.ex
  obtain ⟨F1, F2⟩ := F
  exact ⟨f, fd, ps, ds, ⟨fun vs H Q E q => F1 vs H Q E (h vs H Q E q), fun A outer s H args us vs Q E a1 a2 a3 a4 q => F2 A outer s H args us vs Q E a1 a2 a3 a4 (h vs H Q E q)⟩, hm, kp, b, d⟩
/-- laid over something new all stands -/
theorem same_new {H : Hp} {p : Addr} {o : HO} (h : H p = none) : Same H (upd H p o) := fun b u q => by
  rw [upd_ne (ne_of_none q h)]
  exact q
/-- what happens to a new object leaves the rest -/
theorem same_mut {H H' : Hp} {p : Addr} {o : HO} (g : Same H H') (h : H p = none) : Same H (upd H' p o) := fun b u q => by
  rw [upd_ne (ne_of_none q h)]
  exact g b u q
/-- what isinstance says -/
theorem is_int {K : PySem.W.Frag} : PySem.W.kitOne K (.type "int") (.type "int") = some true := kit_ty (by decide +kernel)
theorem is_int_bool {K : PySem.W.Frag} : PySem.W.kitOne K (.type "int") (.type "bool") = some false := kit_ty (by decide +kernel)
theorem is_tup_int {K : PySem.W.Frag} : PySem.W.kitOne K (.type "tuple") (.type "int") = some false := kit_ty (by decide +kernel)
theorem is_tup {K : PySem.W.Frag} : PySem.W.kitOne K (.type "tuple") (.type "tuple") = some true := kit_ty (by decide +kernel)
theorem is_int_tup {K : PySem.W.Frag} : PySem.W.kitOne K (.type "int") (.type "tuple") = some false := kit_ty (by decide +kernel)
theorem is_str {K : PySem.W.Frag} : PySem.W.kitOne K (.type "str") (.type "str") = some true := kit_ty (by decide +kernel)
theorem is_bool {K : PySem.W.Frag} : PySem.W.kitOne K (.type "bool") (.type "bool") = some true := kit_ty (by decide +kernel)
def isInt : V → Bool
  | .int _ => true
  | _ => false
def isStr : V → Bool
  | .str _ => true
  | _ => false
/-- isinstance(x, n) is b -/
def TyC (K : PySem.W.Frag) (H : Hp) (x : V) (n : String) (b : Bool) : Prop := ∃ t, TyX K H x t ∧ PySem.W.kitOne K t (.type n) = some b
/-- what the program's own look for an integer needs -/
def TyI (K : PySem.W.Frag) (H : Hp) (x : V) : Prop := ∃ b c, TyC K H x "int" b ∧ TyC K H x "bool" c ∧ (b && !c) = isInt x
section
variable {K : PySem.W.Frag} {H : Hp}
theorem tyc_int (i : Int) : TyC K H (.int i) "int" true := ⟨_, .base (.int i), kit_ty (by decide +kernel)⟩
theorem tyi_int (i : Int) : TyI K H (.int i) := ⟨true, false, ⟨_, .base (.int i), kit_ty (by decide +kernel)⟩, ⟨_, .base (.int i), kit_ty (by decide +kernel)⟩, rfl⟩
theorem tyi_tup {a : Addr} {xs : List V} (h : H a = some (.tup xs)) : TyI K H (.ref a) := ⟨false, false, ⟨_, .base (.tup h), kit_ty (by decide +kernel)⟩, ⟨_, .base (.tup h), kit_ty (by decide +kernel)⟩, rfl⟩
theorem tyi_str (z : Str) : TyI K H (.str z) := ⟨false, false, ⟨_, .base (.str z), kit_ty (by decide +kernel)⟩, ⟨_, .base (.str z), kit_ty (by decide +kernel)⟩, rfl⟩
theorem tyc_tup {a : Addr} {xs : List V} (h : H a = some (.tup xs)) : TyC K H (.ref a) "tuple" true := ⟨_, .base (.tup h), kit_ty (by decide +kernel)⟩
theorem tyc_int_tup (i : Int) : TyC K H (.int i) "tuple" false := ⟨_, .base (.int i), kit_ty (by decide +kernel)⟩
theorem tyc_str (z : Str) : TyC K H (.str z) "str" true := ⟨_, .base (.str z), kit_ty (by decide +kernel)⟩
theorem tyc_bl (b : Bool) : TyC K H (.bl b) "bool" true := ⟨_, .base (.bl b), kit_ty (by decide +kernel)⟩
end
/-- a text of 1 to most letters a to z -/
def letB (z : Str) (most : Int) : Bool := decide (1 ≤ (z.length : Int)) && decide ((z.length : Int) ≤ most) && z.cps.toList.all (fun c => decide (97 ≤ c) && decide (c ≤ 122))
def letV (x : V) (most : Int) : Bool := match x with | .str z => letB z most | _ => false
def within (x : V) (lo hi : Int) : Bool := match x with | .int n => decide (lo ≤ n) && decide (n ≤ hi) | _ => false
theorem sign_lt (c d : Nat) : decide (([c] : List Nat) < [d]) = decide (c < d) := by
  by_cases h : c < d
  · rw [decide_eq_true h]
    exact decide_eq_true (List.Lex.rel h)
  · rw [decide_eq_false h]
    refine decide_eq_false fun q => ?_
    cases q with
    | rel r => exact h r
    | cons r => cases r
/-! ### boards -/
/-- a board: its name, the side, the row that was played -/
abbrev Bd := Str × Int × List Str
def BoardAt (H : Hp) (v : V) (b : Bd) : Prop := ∃ a r, v = .ref a ∧ H a = some (.tup [.str b.1, .int b.2.1, .ref r]) ∧ H r = some (.tup (b.2.2.map V.str))
def BoardsAt (H : Hp) (a : Addr) (bs : List Bd) : Prop := ∃ xs, H a = some (.tup xs) ∧ Paired (BoardAt H) xs bs
def rowB (ws : List Str) (most : Int) : Bool := decide ((ws.length : Int) ≤ most) && ws.all (fun z => letB z 20)
def boardB (b : Bd) : Bool := letB b.1 8 && (within (.int b.2.1) 0 1 && rowB b.2.2 20)
/-- nothing here is too long for the model -/
def smallBd (b : Bd) : Prop := b.1.length ≤ 1000 ∧ b.2.2.length ≤ 1000 ∧ ∀ z ∈ b.2.2, z.length ≤ 1000
theorem BoardAt.mono {H H' : Hp} (k : ∀ a xs, H a = some (.tup xs) → H' a = some (.tup xs)) {v : V} {b : Bd} (h : BoardAt H v b) : BoardAt H' v b := by
  obtain ⟨a, r, e, h1, h2⟩ := h
  exact ⟨a, r, e, k _ _ h1, k _ _ h2⟩
theorem paired_mono {α β : Type} {R S : α → β → Prop} (h : ∀ a b, R a b → S a b) : ∀ {xs : List α} {ys : List β}, Paired R xs ys → Paired S xs ys
  | _, _, .nil => .nil
  | _, _, .cons r t => .cons (h _ _ r) (paired_mono h t)
theorem paired_at {α β : Type} {R : α → β → Prop} : ∀ {xs : List α} {ys : List β}, Paired R xs ys → ∀ (i : Nat) (x : α), xs[i]? = some x → ∃ y, ys[i]? = some y ∧ R x y
  | _, _, .nil, i, x, h => by simp at h
  | _, _, .cons r t, 0, x, h => by
    simp at h
    subst h
    exact ⟨_, rfl, r⟩
  | _, _, .cons r t, i + 1, x, h => by
    obtain ⟨y, h1, h2⟩ := paired_at t i x (by simpa using h)
    exact ⟨y, by simpa using h1, h2⟩
theorem paired_len {α β : Type} {R : α → β → Prop} : ∀ {xs : List α} {ys : List β}, Paired R xs ys → xs.length = ys.length
  | _, _, .nil => rfl
  | _, _, .cons _ t => by rw [List.length_cons, List.length_cons, paired_len t]
theorem BoardsAt.mono {H H' : Hp} (k : ∀ a xs, H a = some (.tup xs) → H' a = some (.tup xs)) {a : Addr} {bs : List Bd} (h : BoardsAt H a bs) : BoardsAt H' a bs := by
  obtain ⟨xs, h1, h2⟩ := h
  exact ⟨xs, k _ _ h1, paired_mono (fun _ _ => BoardAt.mono k) h2⟩
theorem same_tups {H H' : Hp} (g : Same H H') : ∀ a xs, H a = some (.tup xs) → H' a = some (.tup xs) := fun a xs h => g a _ h
/-! ### texts gathered -/
theorem take_one {α : Type} {l : List α} {i : Nat} {x : α} (h : l[i]? = some x) : l.take (i + 1) = l.take i ++ [x] := by
  rw [List.take_add_one, h]
  rfl
/-- the program's own word for the names: each once, ascending -/
structure Names (xs ys : List Str) : Prop where
  up : PyProof.Rows.sortedS ys = true
  nd : ys.Nodup
  mem : ∀ x, x ∈ ys ↔ x ∈ xs
/-- a hall stands at p, with these boards -/
def HallAt (K : PySem.W.Frag) (H : Hp) (p : Addr) (bs : List Bd) : Prop := ∃ C dx fs a n ys, Cls K C ∧ NoAttr K C "boards" ∧ NoAttr K C "names" ∧ H p = some (.ins C dx fs) ∧ fs.lookup ("boards" : Str) = some (.ref a) ∧ fs.lookup ("names" : Str) = some (.ref n) ∧
  BoardsAt H a bs ∧ H n = some (.tup (ys.map V.str)) ∧ Names (bs.map (·.1)) ys
/-- all that is no list stands -/
def Keep (H H' : Hp) : Prop := ∀ b o, H b = some o → (∀ xs, o ≠ .lst xs) → H' b = some o
theorem same_keep {H H' : Hp} (g : Same H H') : Keep H H' := fun b o h _ => g b o h
theorem Keep.refl (H : Hp) : Keep H H := fun _ _ h _ => h
theorem Keep.trans {H H1 H2 : Hp} (a : Keep H H1) (b : Keep H1 H2) : Keep H H2 := fun c o h n => b c o (a c o h n) n
theorem Keep.tups {H H' : Hp} (g : Keep H H') : ∀ a xs, H a = some (.tup xs) → H' a = some (.tup xs) := fun a xs h => g a _ h fun _ e => nomatch e
theorem HallAt.mono {K : PySem.W.Frag} {H H' : Hp} (g : Keep H H') {p : Addr} {bs : List Bd} (h : HallAt K H p bs) : HallAt K H' p bs := by
  obtain ⟨C, dx, fs, a, n, ys, h1, h2, h3, h4, h5, h6, h7, h8, h9⟩ := h
  exact ⟨C, dx, fs, a, n, ys, h1, h2, h3, g _ _ h4 (fun _ e => nomatch e), h5, h6, h7.mono g.tups, g.tups _ _ h8, h9⟩
theorem nb_ne : ¬ (("boards" : Str) = "names") := by decide +kernel
/-! ### zip of two tuples of any lengths -/
theorem walk_zipT {K : PySem.W.Frag} {a b : Addr} {xs ys : List V} {n : Nat} (hn : n = min xs.length ys.length) : Walk (ItzT K a b) n (fun H => SqT K H a xs ∧ SqT K H b ys) (YPair (fun i => xs[i]?) (fun i => ys[i]?)) := by
  subst hn
  refine ⟨fun i _ hi q => ?_, fun _ q => ⟨xs, ys, q.1, q.2, by omega⟩, fun i H v H' _ q y => ?_⟩
  · have h1 : i < xs.length := by omega
    have h2 : i < ys.length := by omega
    exact ⟨xs, ys, xs[i], ys[i], q.1, q.2, by simp [h1], by simp [h2]⟩
  · obtain ⟨T, x, z, h1, h2, h3, h4, h5⟩ := y
    exact ⟨T, x, z, h1, h2, h3, h4 xs q.1, h5 ys q.2⟩
/-- the ints rise, each pair of neighbours looked at -/
def ascB (ns : List Int) : Bool := (ns.zip (ns.drop 1)).all fun p => decide (p.1 < p.2)
theorem ascB_of {ns : List Int} (h : ns.Pairwise (· < ·)) : ascB ns = true := by
  unfold ascB
  rw [List.all_eq_true]
  intro p hp
  refine decide_eq_true ?_
  induction ns with
  | nil => simp at hp
  | cons a r ih =>
    obtain ⟨h1, h2⟩ := List.pairwise_cons.mp h
    cases r with
    | nil => simp at hp
    | cons b r =>
      rw [List.drop_one, List.tail_cons] at hp
      rcases List.mem_cons.mp (by simpa using hp) with e | e
      · subst e
        exact h1 b List.mem_cons_self
      · refine ih h2 ?_
        rw [List.drop_one, List.tail_cons]
        exact e
theorem map_at {α β : Type} {f : α → β} {l : List α} {i : Nat} {y : β} (h : (l.map f)[i]? = some y) : ∃ x, l[i]? = some x ∧ y = f x := by
  rw [List.getElem?_map] at h
  cases e : l[i]? with
  | none =>
    rw [e] at h
    cases h
  | some x =>
    rw [e] at h
    exact ⟨x, rfl, (Option.some.inj h).symm⟩
/-- a def that nobody can ask anything of -/
theorem cal_void {P : Program} {w : World} {K : PySem.W.Frag} {mg : Str → Option Value} {base : Heap} {x : Str} {st : Stmt} {ps : List Str} {k : Nat} {sp : Sp} (D : Top K mg x st)
    (hb : ∀ (kV doc pm : Value) (an : Option Addr) (cdv ct : Value) (us : List Value), us.length = ps.length → PySem.bindArgs (PySem.W.fnOf x x (defArgs st) (defBody st) (defScope st) .none kV doc pm an cdv ct) ⟨us, []⟩ = pure (ps.zip us))
    (no : ∀ vs H Q E, ¬ sp vs H Q E) : Cal P w K mg base k x sp [] := by
  obtain ⟨f, fd, F, hm⟩ := D
  exact ⟨f, fd, ps, [], ⟨fun vs H Q E h => absurd h (no vs H Q E), fun A outer s H args us vs Q E _ _ _ _ h => absurd h (no vs H Q E)⟩, hm, F.kp, F.binds hb, .nil⟩
/-! ### aims -/
inductive AKind where
  | all | some | least (k : Int)
def AKind.head : AKind → List V
  | .all => [.str "all"]
  | .some => [.str "some"]
  | .least k => [.str "least", .int k]
def AKind.ok : AKind → Prop
  | .least k => 0 ≤ k ∧ k ≤ 25
  | _ => True
def AKind.val : AKind → List Bool → Bool
  | .all, bs => bs.all id
  | .some, bs => bs.any id
  | .least k, bs => decide (k ≤ (bs.count true : Nat))
def AKind.need : AKind → Nat → Int
  | .all, n => n
  | .some, _ => 1
  | .least k, _ => k
/-- what an aim says of the boards that are won -/
abbrev ASem := (Int → Bool) → Bool
/-- at v stands an aim of boards below many, at most d deep, of s aims, that says φ -/
def AimV (H : Hp) (many : Int) : Nat → V → Nat → ASem → Prop
  | 0, _, _, _ => False
  | d + 1, v, s, φ => (∃ n : Int, v = .int n ∧ 0 ≤ n ∧ n < many ∧ s = 1 ∧ φ = fun w => w n) ∨
    (∃ (a p : Addr) (xs : List V) (kd : AKind) (ys : List (Nat × ASem)), v = .ref a ∧ H a = some (.tup (kd.head ++ [.ref p])) ∧ H p = some (.tup xs) ∧ kd.ok ∧ xs.length ≤ 24 ∧ Paired (fun x y => AimV H many d x y.1 y.2) xs ys ∧
      s = 1 + (ys.map (·.1)).sum ∧ φ = fun w => kd.val (ys.map fun y => y.2 w))
theorem AimV.mono {H H' : Hp} {many : Int} (k : ∀ a xs, H a = some (.tup xs) → H' a = some (.tup xs)) : ∀ {d : Nat} {v : V} {s : Nat} {φ : ASem}, AimV H many d v s φ → AimV H' many d v s φ
  | 0, _, _, _, h => h.elim
  | d + 1, v, s, φ, h => by
    rcases h with h | ⟨a, p, xs, kd, ys, h1, h2, h3, h4, h5, h6, h7, h8⟩
    · exact .inl h
    · exact .inr ⟨a, p, xs, kd, ys, h1, k _ _ h2, k _ _ h3, h4, h5, paired_mono (fun _ _ h => AimV.mono k h) h6, h7, h8⟩
theorem AimV.deeper {H : Hp} {many : Int} : ∀ {d e : Nat} {v : V} {s : Nat} {φ : ASem}, d ≤ e → AimV H many d v s φ → AimV H many e v s φ
  | 0, _, _, _, _, _, h => h.elim
  | d + 1, 0, _, _, _, l, _ => absurd l (Nat.not_succ_le_zero d)
  | d + 1, e + 1, v, s, φ, l, h => by
    rcases h with h | ⟨a, p, xs, kd, ys, h1, h2, h3, h4, h5, h6, h7, h8⟩
    · exact .inl h
    · exact .inr ⟨a, p, xs, kd, ys, h1, h2, h3, h4, h5, paired_mono (fun _ _ h => AimV.deeper (Nat.le_of_succ_le_succ l) h) h6, h7, h8⟩
theorem AimV.pos {H : Hp} {many : Int} : ∀ {d : Nat} {v : V} {s : Nat} {φ : ASem}, AimV H many d v s φ → 1 ≤ s
  | 0, _, _, _, h => h.elim
  | d + 1, v, s, φ, h => by
    rcases h with ⟨n, _, _, _, e, _⟩ | ⟨a, p, xs, kd, ys, h1, h2, h3, h4, h5, h6, h7, h8⟩ <;> omega
theorem head_len (kd : AKind) : (kd.head ++ [V.ref p]).length = 2 ∨ (kd.head ++ [V.ref p]).length = 3 := by
  cases kd
  · exact .inl rfl
  · exact .inl rfl
  · exact .inr rfl
def b2 (b : Bool) : Int := if b then 1 else 0
theorem iteP {c A B : Prop} [Decidable c] (hc : c) (h : A) : if c then A else B := by
  rw [if_pos hc]
  exact h
theorem iteN {c A B : Prop} [Decidable c] (hc : ¬ c) (h : B) : if c then A else B := by
  rw [if_neg hc]
  exact h
theorem nt {b : Bool} (h : b = false) : ¬ b = true := by rw [h]; exact Bool.false_ne_true
theorem l2 : 2 ≤ PySem.sizeLine := by decide
theorem sum_take_le : ∀ (l : List Nat) (i : Nat), (l.take i).sum ≤ l.sum
  | [], i => by simp
  | x :: l, 0 => by simp
  | x :: l, i + 1 => by
    have := sum_take_le l i
    simp only [List.take_succ_cons, List.sum_cons]
    omega
theorem sum_take_one {l : List Nat} {i x : Nat} (h : l[i]? = some x) : (l.take (i + 1)).sum = (l.take i).sum + x := by
  rw [take_one h, List.sum_append]
  simp
theorem int_ne {i j : Int} (h : i ≠ j) : decide (V.int i = V.int j) = false := decide_eq_false fun e => h (V.int.inj e)
theorem int_eq {i j : Int} (h : i = j) : decide (V.int i = V.int j) = true := decide_eq_true (congrArg V.int h)
/-! ### the tape from which a law draws -/
def TapeAt (H : Hp) (tp l : Addr) : Prop := ∃ (ns : List Int) (i c m n : Int), H tp = some (.lst [.ref l, .int i, .int c, .int m, .int n]) ∧ H l = some (.lst (ns.map V.int)) ∧ 0 ≤ i
/-- all but the tape stands -/
def Mov (tp : Addr) (H H' : Hp) : Prop := ∀ b o, H b = some o → b ≠ tp → H' b = some o
theorem Mov.refl (tp : Addr) (H : Hp) : Mov tp H H := fun _ _ h _ => h
theorem Mov.trans {tp : Addr} {H H1 H2 : Hp} (a : Mov tp H H1) (b : Mov tp H1 H2) : Mov tp H H2 := fun c o h n => b c o (a c o h n) n
theorem mov_same {tp : Addr} {H H' : Hp} (g : Same H H') : Mov tp H H' := fun b o h _ => g b o h
theorem mov_upd {tp : Addr} {H : Hp} {o : HO} : Mov tp H (upd H tp o) := fun b u h n => by
  rw [upd_ne n]
  exact h
theorem mov_mut {tp : Addr} {H H' : Hp} {p : Addr} {o : HO} (g : Mov tp H H') (h : H p = none) : Mov tp H (upd H' p o) := fun b u q n => by
  rw [upd_ne (ne_of_none q h)]
  exact g b u q n
theorem TapeAt.keep {H H' : Hp} {tp l : Addr} (t : TapeAt H tp l) (m : Mov tp H H') : Keep H H' := fun b o h n => m b o h fun e => by
  obtain ⟨ns, i, c, k, j, h1, _⟩ := t
  rw [e, h1] at h
  exact n _ (Option.some.inj h).symm
theorem TapeAt.same {H H' : Hp} {tp l : Addr} (t : TapeAt H tp l) (g : Same H H') : TapeAt H' tp l := by
  obtain ⟨ns, i, c, k, j, h1, h2, h3⟩ := t
  exact ⟨ns, i, c, k, j, g _ _ h1, g _ _ h2, h3⟩
theorem TapeAt.new {H : Hp} {tp l p : Addr} (t : TapeAt H tp l) (h : H p = none) : p ≠ tp ∧ p ≠ l := by
  obtain ⟨ns, i, c, k, j, h1, h2, h3⟩ := t
  exact ⟨(ne_of_none h1 h).symm, (ne_of_none h2 h).symm⟩
theorem TapeAt.upd {H : Hp} {tp l p : Addr} {o : HO} (t : TapeAt H tp l) (n : p ≠ tp ∧ p ≠ l) : TapeAt (L2.upd H p o) tp l := by
  obtain ⟨ns, i, c, k, j, h1, h2, h3⟩ := t
  exact ⟨ns, i, c, k, j, by rw [upd_ne n.1.symm]; exact h1, by rw [upd_ne n.2.symm]; exact h2, h3⟩
theorem keep_lst {H : Hp} {p : Addr} {xs ys : List V} (h : H p = some (.lst xs)) : Keep H (upd H p (.lst ys)) := fun b o hb n => by
  rw [upd_ne (fun e => by rw [e, h] at hb; exact n _ (Option.some.inj hb).symm)]
  exact hb
theorem paired_snoc {α β : Type} {R : α → β → Prop} : ∀ {xs : List α} {ys : List β} {x : α} {y : β}, Paired R xs ys → R x y → Paired R (xs ++ [x]) (ys ++ [y])
  | _, _, _, _, .nil, h => .cons h .nil
  | _, _, _, _, .cons r t, h => .cons r (paired_snoc t h)
theorem sum_bound {B : Nat} : ∀ (l : List Nat), (∀ x ∈ l, x ≤ B) → l.sum ≤ B * l.length
  | [], _ => by simp
  | x :: l, h => by
    have h1 := h x List.mem_cons_self
    have h2 := sum_bound l fun y hy => h y (List.mem_cons_of_mem _ hy)
    rw [List.sum_cons, List.length_cons, Nat.mul_succ]
    omega
theorem tape_ne {H : Hp} {tp l : Addr} {ns : List Int} {i c m n : Int} (h1 : H tp = some (.lst [.ref l, .int i, .int c, .int m, .int n])) (h2 : H l = some (.lst (ns.map V.int))) : l ≠ tp := fun e => by
  rw [e, h1] at h2
  cases ns with
  | nil => cases h2
  | cons a r => cases h2
theorem at_getD {L : List Int} {k : Nat} (h : k < L.length) : atI (L.map V.int) (k : Int) = some (V.int (L.getD k 0)) := by
  refine atI_nat ?_
  rw [List.getElem?_map, List.getD_eq_getElem?_getD, List.getElem?_eq_getElem h]
  rfl
theorem ixN_nat {n k : Nat} (h : k < n) : ixN n (k : Int) = some k := by
  unfold ixN
  rw [if_pos (by omega), if_pos (by omega)]
  rfl
theorem in_ints (n : Int) : ∀ ns : List Int, inV (.int n) (ns.map V.int) = decide (n ∈ ns)
  | [] => rfl
  | m :: ns => by
    have ih := in_ints n ns
    unfold inV at ih ⊢
    rw [List.map_cons, List.any_cons, ih]
    have e : eqV (V.int m) (V.int n) = decide (m = n) := by
      show (m == n) = decide (m = n)
      by_cases h : m = n
      · rw [decide_eq_true h, h]
        exact beq_self_eq_true n
      · rw [decide_eq_false h]
        exact beq_eq_false_iff_ne.mpr h
    rw [e]
    by_cases h : m = n
    · subst h
      simp
    · have h' : ¬ n = m := fun z => h z.symm
      simp [h, h']
theorem flat_ints (ns : List Int) : (ns.map V.int).all flatV = true := by
  rw [List.all_map]
  exact List.all_eq_true.mpr fun _ _ => rfl
end Nm
namespace K16
open PySem L2
def top (i : Nat) : Stmt := PySem.Challenge.pw_untoldgames_k16_whole_what_reaches_an_ai.main.body.getD i (.Pass ⟨0, 0, 0, 0⟩)
abbrev s_is_integer : Stmt := top 6
abbrev s_is_within : Stmt := top 7
abbrev s_is_side : Stmt := top 8
abbrev s_is_lettered : Stmt := top 9
abbrev s_is_name : Stmt := top 11
abbrev s_is_word : Stmt := top 10
abbrev s_is_words : Stmt := top 12
abbrev s_is_board : Stmt := top 33
abbrev s_names_of : Stmt := top 34
abbrev s_Hall___init__ : Stmt := inClass (top 35) 0
abbrev s_is_ascending : Stmt := top 13
abbrev s_is_lot : Stmt := top 14
abbrev s_parts_of : Stmt := top 21
abbrev s_size_of : Stmt := top 22
abbrev s_is_aim : Stmt := top 23
abbrev s_check_aim : Stmt := top 24
abbrev s_least_needed : Stmt := top 25
abbrev s_cases_with_least : Stmt := top 26
abbrev s_aim_cases : Stmt := top 27
abbrev s_is_reached : Stmt := top 28
abbrev s_reached : Stmt := top 29
abbrev s__law_tape : Stmt := top 37
abbrev s__law_pick : Stmt := top 38
abbrev s__law_flag : Stmt := top 39
abbrev s__law_aim : Stmt := top 40
abbrev s__law_holds : Stmt := top 41
abbrev s_law : Stmt := top 42
theorem sc_is_integer : FnScope ["thing"] ["thing"] (defScope s_is_integer) := ⟨rfl, rfl, rfl, by decide +kernel, rfl, by decide +kernel, by decide +kernel⟩
theorem sc_is_within : FnScope ["thing", "low", "high"] ["thing", "low", "high"] (defScope s_is_within) := ⟨rfl, rfl, rfl, by decide +kernel, rfl, by decide +kernel, by decide +kernel⟩
theorem sc_is_side : FnScope ["thing"] ["thing"] (defScope s_is_side) := ⟨rfl, rfl, rfl, by decide +kernel, rfl, by decide +kernel, by decide +kernel⟩
theorem sc_is_lettered : FnScope ["thing", "most", "sign"] ["thing", "most"] (defScope s_is_lettered) := ⟨rfl, rfl, rfl, by decide +kernel, rfl, by decide +kernel, by decide +kernel⟩
theorem sc_is_name : FnScope ["thing"] ["thing"] (defScope s_is_name) := ⟨rfl, rfl, rfl, by decide +kernel, rfl, by decide +kernel, by decide +kernel⟩
theorem sc_is_word : FnScope ["thing"] ["thing"] (defScope s_is_word) := ⟨rfl, rfl, rfl, by decide +kernel, rfl, by decide +kernel, by decide +kernel⟩
theorem sc_is_words : FnScope ["thing", "most", "word"] ["thing", "most"] (defScope s_is_words) := ⟨rfl, rfl, rfl, by decide +kernel, rfl, by decide +kernel, by decide +kernel⟩
theorem sc_is_board : FnScope ["thing", "name", "side", "begun"] ["thing"] (defScope s_is_board) := ⟨rfl, rfl, rfl, by decide +kernel, rfl, by decide +kernel, by decide +kernel⟩
theorem sc_names_of : FnScope ["boards", "board"] ["boards"] (defScope s_names_of) := ⟨rfl, rfl, rfl, by decide +kernel, rfl, by decide +kernel, by decide +kernel⟩
theorem sc_Hall___init__ : FnScope ["self", "boards", "at", "board"] ["self", "boards"] (defScope s_Hall___init__) := ⟨rfl, rfl, rfl, by decide +kernel, rfl, by decide +kernel, by decide +kernel⟩
theorem sc_is_ascending : FnScope ["things", "one", "other"] ["things"] (defScope s_is_ascending) := ⟨rfl, rfl, rfl, by decide +kernel, rfl, by decide +kernel, by decide +kernel⟩
theorem sc_is_lot : FnScope ["thing", "many", "number"] ["thing", "many"] (defScope s_is_lot) := ⟨rfl, rfl, rfl, by decide +kernel, rfl, by decide +kernel, by decide +kernel⟩
theorem sc_parts_of : FnScope ["thing", "parts"] ["thing"] (defScope s_parts_of) := ⟨rfl, rfl, rfl, by decide +kernel, rfl, by decide +kernel, by decide +kernel⟩
theorem sc_size_of : FnScope ["thing", "most_number", "deep", "parts", "size", "part", "added"] ["thing", "most_number", "deep"] (defScope s_size_of) := ⟨rfl, rfl, rfl, by decide +kernel, rfl, by decide +kernel, by decide +kernel⟩
theorem sc_is_aim : FnScope ["hall", "thing"] ["hall", "thing"] (defScope s_is_aim) := ⟨rfl, rfl, rfl, by decide +kernel, rfl, by decide +kernel, by decide +kernel⟩
theorem sc_check_aim : FnScope ["hall", "aim"] ["hall", "aim"] (defScope s_check_aim) := ⟨rfl, rfl, rfl, by decide +kernel, rfl, by decide +kernel, by decide +kernel⟩
theorem sc_least_needed : FnScope ["aim"] ["aim"] (defScope s_least_needed) := ⟨rfl, rfl, rfl, by decide +kernel, rfl, by decide +kernel, by decide +kernel⟩
theorem sc_cases_with_least : FnScope ["parts", "least", "whole", "counted", "at", "part", "low", "number"] ["parts", "least", "whole"] (defScope s_cases_with_least) := ⟨rfl, rfl, rfl, by decide +kernel, rfl, by decide +kernel, by decide +kernel⟩
theorem sc_aim_cases : FnScope ["aim", "cases", "whole", "parts", "part"] ["aim", "cases", "whole"] (defScope s_aim_cases) := ⟨rfl, rfl, rfl, by decide +kernel, rfl, by decide +kernel, by decide +kernel⟩
theorem sc_is_reached : FnScope ["aim", "won", "many", "cases", "board"] ["aim", "won", "many"] (defScope s_is_reached) := ⟨rfl, rfl, rfl, by decide +kernel, rfl, by decide +kernel, by decide +kernel⟩
theorem sc_reached : FnScope ["hall", "aim", "won", "many"] ["hall", "aim", "won"] (defScope s_reached) := ⟨rfl, rfl, rfl, by decide +kernel, rfl, by decide +kernel, by decide +kernel⟩
theorem sc__law_tape : FnScope ["script"] ["script"] (defScope s__law_tape) := ⟨rfl, rfl, rfl, by decide +kernel, rfl, by decide +kernel, by decide +kernel⟩
theorem sc__law_pick : FnScope ["tape", "size", "digit", "cell", "mixed"] ["tape", "size"] (defScope s__law_pick) := ⟨rfl, rfl, rfl, by decide +kernel, rfl, by decide +kernel, by decide +kernel⟩
theorem sc__law_flag : FnScope ["told", "due"] ["told", "due"] (defScope s__law_flag) := ⟨rfl, rfl, rfl, by decide +kernel, rfl, by decide +kernel, by decide +kernel⟩
theorem sc__law_aim : FnScope ["tape", "many", "deep", "inner", "k"] ["tape", "many", "deep"] (defScope s__law_aim) := ⟨rfl, rfl, rfl, by decide +kernel, rfl, by decide +kernel, by decide +kernel⟩
theorem sc__law_holds : FnScope ["aim", "won", "told", "one"] ["aim", "won"] (defScope s__law_holds) := ⟨rfl, rfl, rfl, by decide +kernel, rfl, by decide +kernel, by decide +kernel⟩
theorem sc_law : FnScope ["script", "tape", "many", "hall", "turn", "aim", "inner", "k", "lot", "more", "due", "same", "board"] ["script"] (defScope s_law) := ⟨rfl, rfl, rfl, by decide +kernel, rfl, by decide +kernel, by decide +kernel⟩
structure Txt (K : PySem.W.Frag) (mg : Str → Option Value) : Prop where
  d_is_integer : Nm.Top K mg "is_integer" s_is_integer
  d_is_within : Nm.Top K mg "is_within" s_is_within
  d_is_side : Nm.Top K mg "is_side" s_is_side
  d_is_lettered : Nm.Top K mg "is_lettered" s_is_lettered
  d_is_name : Nm.Top K mg "is_name" s_is_name
  d_is_word : Nm.Top K mg "is_word" s_is_word
  d_is_words : Nm.Top K mg "is_words" s_is_words
  d_is_board : Nm.Top K mg "is_board" s_is_board
  d_names_of : Nm.Top K mg "names_of" s_names_of
  d_is_ascending : Nm.Top K mg "is_ascending" s_is_ascending
  d_is_lot : Nm.Top K mg "is_lot" s_is_lot
  d_parts_of : Nm.Top K mg "parts_of" s_parts_of
  d_size_of : Nm.Top K mg "size_of" s_size_of
  d_is_aim : Nm.Top K mg "is_aim" s_is_aim
  d_check_aim : Nm.Top K mg "check_aim" s_check_aim
  d_least_needed : Nm.Top K mg "least_needed" s_least_needed
  d_cases_with_least : Nm.Top K mg "cases_with_least" s_cases_with_least
  d_aim_cases : Nm.Top K mg "aim_cases" s_aim_cases
  d_is_reached : Nm.Top K mg "is_reached" s_is_reached
  d_reached : Nm.Top K mg "reached" s_reached
  d__law_tape : Nm.Top K mg "_law_tape" s__law_tape
  d__law_pick : Nm.Top K mg "_law_pick" s__law_pick
  d__law_flag : Nm.Top K mg "_law_flag" s__law_flag
  d__law_aim : Nm.Top K mg "_law_aim" s__law_aim
  d__law_holds : Nm.Top K mg "_law_holds" s__law_holds
  d_law : Nm.Top K mg "law" s_law
  m_all : mg "all" = none
  m_any : mg "any" = none
  m_bool : mg "bool" = none
  m_enumerate : mg "enumerate" = none
  m_int : mg "int" = none
  m_isinstance : mg "isinstance" = none
  m_len : mg "len" = none
  m_list : mg "list" = none
  m_max : mg "max" = none
  m_min : mg "min" = none
  m_range : mg "range" = none
  m_sorted : mg "sorted" = none
  m_str : mg "str" = none
  m_tuple : mg "tuple" = none
  m_zip : mg "zip" = none
  g_MOST_AIMS : ∃ u, mg "MOST_AIMS" = some u ∧ RelV (.int 200) u
  g_MOST_BEGUN : ∃ u, mg "MOST_BEGUN" = some u ∧ RelV (.int 20) u
  g_MOST_BOARDS : ∃ u, mg "MOST_BOARDS" = some u ∧ RelV (.int 12) u
  g_MOST_DEEP : ∃ u, mg "MOST_DEEP" = some u ∧ RelV (.int 8) u
  g_MOST_LEAST : ∃ u, mg "MOST_LEAST" = some u ∧ RelV (.int 25) u
  g_MOST_NUMBER : ∃ u, mg "MOST_NUMBER" = some u ∧ RelV (.int 1000000) u
  g_MOST_PARTS : ∃ u, mg "MOST_PARTS" = some u ∧ RelV (.int 24) u
  cls_Hall : ∃ C f fd, Cls K C ∧ Mk K C f ∧ mg "Hall" = some (.ref C) ∧ Fun K "__init__" "Hall.__init__" s_Hall___init__ f fd ∧ NoAttr K C "boards" ∧ NoAttr K C "names"
end K16
namespace K16
open PySem L2 Nm
open C8 (Cal Mak pe_c pe_mk pe_gc)
open RZ (ItzT pi_zipA)
section
variable {P : Program} {w : World} {K : PySem.W.Frag} {mg : Str → Option Value} {base : Heap}
def sp_is_integer (K : PySem.W.Frag) : Sp := fun vs H Q _ => ∃ (x : V), vs = [x] ∧ TyI K H x ∧ Q (.bl (isInt x)) H
theorem c_is_integer (T : Txt K mg) : Cal P w K mg base 1 "is_integer" (sp_is_integer K) [] := by
  have sc := sc_is_integer
  refine cal_of T.d_is_integer sc (fun _ _ _ _ _ _ us hl => match us, hl with | [_], _ => rfl) (fun vs H Q E h => ?_) (fun f cdv A outer s H vs Q E hr h => ?_)
  · obtain ⟨x, rfl, _⟩ := h
    rfl
  · obtain ⟨x, rfl, h⟩ := h
    refine ⟨_, (pss_one (ps_ret (pe_and (pe_callB call_isi rfl T.m_isinstance (by decide +kernel) (pa_cons (pv 0) (pa_cons (pe_bltn (v := .ty "int") (u := .type "int") rfl T.m_int (by decide +kernel) rfl) pa_nil))) (pe_one (pe_not (pe_callB call_isi rfl T.m_isinstance (by decide +kernel) (pa_cons (pv 0) (pa_cons (pe_bltn (v := .ty "bool") (u := .type "bool") rfl T.m_bool (by decide +kernel) rfl) pa_nil)))))))), ?_⟩
    obtain ⟨⟨b, c, ⟨t, h1, h2⟩, ⟨u, h3, h4⟩, e⟩, q⟩ := h
    refine ⟨_, rfl, _, _, t, _, b, rfl, .ty _, h1, h2, b, rfl, ?_⟩
    cases b with
    | false =>
      refine iteF ?_
      rw [← e] at q
      exact q
    | true =>
      refine iteT ⟨_, rfl, _, _, u, _, c, rfl, .ty _, h3, h4, c, rfl, ?_⟩
      rw [← e] at q
      exact q
end
end K16
namespace K16
open PySem L2 Nm
open C8 (Cal Mak pe_c pe_mk pe_gc)
open RZ (ItzT pi_zipA)
section
variable {P : Program} {w : World} {K : PySem.W.Frag} {mg : Str → Option Value} {base : Heap}
def sp_is_within (K : PySem.W.Frag) : Sp := fun vs H Q _ => ∃ (x : V) (lo hi : Int), vs = [x, .int lo, .int hi] ∧ TyI K H x ∧ Q (.bl (within x lo hi)) H
theorem c_is_within (T : Txt K mg) : Cal P w K mg base 2 "is_within" (sp_is_within K) [] := by
  have C_is_integer := c_is_integer (P := P) (w := w) (base := base) T
  have sc := sc_is_within
  refine cal_of T.d_is_within sc (fun _ _ _ _ _ _ us hl => match us, hl with | [_, _, _], _ => rfl) (fun vs H Q E h => ?_) (fun f cdv A outer s H vs Q E hr h => ?_)
  · obtain ⟨x, lo, hi, rfl, _⟩ := h
    rfl
  · obtain ⟨x, lo, hi, rfl, h⟩ := h
    refine ⟨_, (pss_one (ps_ret (pe_and (pe_c C_is_integer hr (by omega) rfl (pa_cons (pv 0) pa_nil)) (pe_one (pe_chain op_le op_le (pv 1) (pv 0) (pv 2)))))), ?_⟩
    obtain ⟨ty, q⟩ := h
    refine ⟨_, rfl, x, rfl, ty, isInt x, rfl, ?_⟩
    cases x with
    | int n =>
      refine iteT ⟨_, rfl, _, rfl, lo, n, rfl, rfl, decide (lo ≤ n), rfl, ?_⟩
      by_cases c : lo ≤ n
      · rw [if_pos (decide_eq_true c)]
        refine ⟨_, rfl, n, hi, rfl, rfl, ?_⟩
        have e : within (.int n) lo hi = decide (n ≤ hi) := by
          show (decide (lo ≤ n) && decide (n ≤ hi)) = _
          rw [decide_eq_true c, Bool.true_and]
        rw [e] at q
        exact q
      · rw [if_neg (by rw [decide_eq_false c]; exact Bool.false_ne_true)]
        have e : within (.int n) lo hi = false := by
          show (decide (lo ≤ n) && decide (n ≤ hi)) = _
          rw [decide_eq_false c, Bool.false_and]
        rw [e] at q
        exact q
    | _ => exact iteF q
end
end K16
namespace K16
open PySem L2 Nm
open C8 (Cal Mak pe_c pe_mk pe_gc)
open RZ (ItzT pi_zipA)
section
variable {P : Program} {w : World} {K : PySem.W.Frag} {mg : Str → Option Value} {base : Heap}
def sp_is_side (K : PySem.W.Frag) : Sp := fun vs H Q _ => ∃ (x : V), vs = [x] ∧ TyI K H x ∧ Q (.bl (within x 0 1)) H
theorem c_is_side (T : Txt K mg) : Cal P w K mg base 3 "is_side" (sp_is_side K) [] := by
  have C_is_within := c_is_within (P := P) (w := w) (base := base) T
  have sc := sc_is_side
  refine cal_of T.d_is_side sc (fun _ _ _ _ _ _ us hl => match us, hl with | [_], _ => rfl) (fun vs H Q E h => ?_) (fun f cdv A outer s H vs Q E hr h => ?_)
  · obtain ⟨x, rfl, _⟩ := h
    rfl
  · obtain ⟨x, rfl, h⟩ := h
    refine ⟨_, (pss_one (ps_ret (pe_c C_is_within hr (by omega) rfl (pa_cons (pv 0) (pa_cons pe_int (pa_cons pe_int pa_nil)))))), ?_⟩
    obtain ⟨ty, q⟩ := h
    exact ⟨_, rfl, x, 0, 1, rfl, ty, q⟩
end
end K16
namespace K16
open PySem L2 Nm
open C8 (Cal Mak pe_c pe_mk pe_gc)
open RZ (ItzT pi_zipA)
section
variable {P : Program} {w : World} {K : PySem.W.Frag} {mg : Str → Option Value} {base : Heap}
def sp_is_lettered (K : PySem.W.Frag) : Sp := fun vs H Q _ => ∃ (z : Str) (most : Int), vs = [.str z, .int most] ∧ z.length ≤ 1000 ∧ ∀ H', Same H H' → Q (.bl (letB z most)) H'
theorem c_is_lettered (T : Txt K mg) : Cal P w K mg base 1 "is_lettered" (sp_is_lettered K) [] := by
  have sc := sc_is_lettered
  refine cal_of T.d_is_lettered sc (fun _ _ _ _ _ _ us hl => match us, hl with | [_, _], _ => rfl) (fun vs H Q E h => ?_) (fun f cdv A outer s H vs Q E hr h => ?_)
  · obtain ⟨z, most, rfl, _⟩ := h
    rfl
  · obtain ⟨z, most, rfl, h⟩ := h
    refine ⟨_, (pss_cons (ps_if (PW.pt (pw_or (pt_not (pt_val (pe_callB call_isi rfl T.m_isinstance (by decide +kernel) (pa_cons (pv 0) (pa_cons (pe_bltn (v := .ty "str") (u := .type "str") rfl T.m_str (by decide +kernel) rfl) pa_nil))))) (pw_or1 (pt_not (pt_chain op_le op_le pe_int (pe_callB call_len_str rfl T.m_len (by decide +kernel) (pa_cons (pv 0) pa_nil)) (pv 1)))))) (pss_one (ps_ret pe_bl)) pss_nil)
  (pss_one (ps_ret (pe_callB (cr_all rfl) rfl T.m_all (by decide +kernel) (pa_cons (pe_lc (own := [("sign", 2)]) (g := gName 2) rfl sc.nd (pi_str (pv 0)) (blkOk_by (own := [("sign", 2)]) (N := ["thing", "most", "sign"]) (sc := defScope s_is_lettered) (by decide +kernel)) (fun _ _ _ _ _ => (pg_name (i := 2) sc.nd rfl (Or.inl rfl))) (fun _ _ _ _ _ => pts_nil) (fun _ _ _ _ _ => (pe_chain op_le_str op_le_str pe_str (pv 2) pe_str))) pa_nil))))), ?_⟩
    obtain ⟨hz, q⟩ := h
    obtain ⟨t, h1, h2⟩ := tyc_str (K := K) (H := H) z
    have fit : z.length ≤ sizeLine := Nat.le_trans hz (by decide)
    refine ⟨_, rfl, _, _, t, _, true, rfl, .ty _, h1, h2, true, rfl, ?_⟩
    refine iteF ?_
    refine ⟨_, rfl, z, rfl, fit, 1, (z.length : Int), rfl, rfl, decide (1 ≤ (z.length : Int)), rfl, ?_⟩
    by_cases c1 : 1 ≤ (z.length : Int)
    · rw [if_pos (decide_eq_true c1)]
      refine ⟨_, rfl, (z.length : Int), most, rfl, rfl, decide ((z.length : Int) ≤ most), rfl, ?_⟩
      by_cases c2 : (z.length : Int) ≤ most
      · rw [decide_eq_true c2]
        refine iteF ?_
        refine ⟨_, rfl, z, rfl, fun D hD => ?_⟩
        refine lc_it walk_str (fun i H1 => H1 D = some (.lst ((z.cps.toList.take i).map fun c => V.bl (decide (97 ≤ c) && decide (c ≤ 122)))) ∧ Same H H1) ⟨upd_same, same_new hD⟩ (fun _ _ _ _ => trivial) ?_ ?_
        · rintro i x H0 H1 hi ⟨hl, g⟩ ⟨rfl, c, hc, rfl⟩
          refine ⟨rfl, ?_⟩
          have hc' : z.cps.toList[i]? = some c := by rw [Array.getElem?_toList]; exact hc
          have tk : (z.cps.toList.take (i + 1)).map (fun c => V.bl (decide (97 ≤ c) && decide (c ≤ 122))) = (z.cps.toList.take i).map (fun c => V.bl (decide (97 ≤ c) && decide (c ≤ 122))) ++ [V.bl (decide (97 ≤ c) && decide (c ≤ 122))] := by
            rw [List.take_add_one, hc', List.map_append]
            rfl
          have small : ((z.cps.toList.take i).map fun c => V.bl (decide (97 ≤ c) && decide (c ≤ 122))).length < sizeLine := by
            rw [List.length_map, List.length_take]
            have a : z.cps.toList.length = z.length := by rw [Array.length_toList]; rfl
            have b : (1000 : Nat) < sizeLine := by decide
            omega
          have fin : ∀ v : Bool, v = (decide (97 ≤ c) && decide (c ≤ 122)) → ∃ acc, H1 D = some (.lst acc) ∧ acc.length < sizeLine ∧
              (upd H1 D (.lst (acc ++ [V.bl v])) D = some (.lst ((z.cps.toList.take (i + 1)).map fun c => V.bl (decide (97 ≤ c) && decide (c ≤ 122)))) ∧ Same H (upd H1 D (.lst (acc ++ [V.bl v])))) := fun v e => by
            refine ⟨_, hl, small, ?_, same_mut g hD⟩
            rw [upd_same, tk, e]
          refine ⟨_, rfl, _, _, rfl, rfl, !decide (([c] : List Nat) < [97]), rfl, ?_⟩
          rw [sign_lt]
          by_cases d : 97 ≤ c
          · rw [if_pos (by rw [decide_eq_false (by omega)]; rfl)]
            refine ⟨_, _, rfl, rfl, ?_⟩
            refine fin (!decide (([122] : List Nat) < [c])) ?_
            rw [sign_lt, decide_eq_true d, Bool.true_and]
            by_cases d2 : c ≤ 122
            · rw [decide_eq_true d2, decide_eq_false (by omega)]
              rfl
            · rw [decide_eq_false d2, decide_eq_true (by omega)]
              rfl
          · rw [if_neg (by rw [decide_eq_true (by omega)]; exact Bool.false_ne_true)]
            refine fin false ?_
            rw [decide_eq_false d]
            rfl
        · rintro H1 ⟨hl, g⟩
          have hn : z.cps.toList.take z.cps.size = z.cps.toList := List.take_of_length_le (by rw [Array.length_toList]; exact Nat.le_refl _)
          rw [hn] at hl
          refine ⟨D, z.cps.toList.map (fun c => decide (97 ≤ c) && decide (c ≤ 122)), rfl, SqL.of (by rw [hl, List.map_map]; rfl), ?_⟩
          have e : letB z most = ((z.cps.toList.map (fun c => decide (97 ≤ c) && decide (c ≤ 122))).all id) := by
            unfold letB
            rw [decide_eq_true c1, decide_eq_true c2, List.all_map]
            rfl
          have q' := q H1 g
          rw [e] at q'
          exact q'
      · rw [decide_eq_false c2]
        refine iteT ?_
        have e : letB z most = false := by unfold letB; rw [decide_eq_false c2, Bool.and_false, Bool.false_and]
        have q' := q H (Same.refl H)
        rw [e] at q'
        exact q'
    · rw [if_neg (by rw [decide_eq_false c1]; exact Bool.false_ne_true)]
      refine ⟨false, rfl, iteT ?_⟩
      have e : letB z most = false := by unfold letB; rw [decide_eq_false c1, Bool.false_and, Bool.false_and]
      have q' := q H (Same.refl H)
      rw [e] at q'
      exact q'
end
end K16
namespace K16
open PySem L2 Nm
open C8 (Cal Mak pe_c pe_mk pe_gc)
open RZ (ItzT pi_zipA)
section
variable {P : Program} {w : World} {K : PySem.W.Frag} {mg : Str → Option Value} {base : Heap}
def sp_is_name (K : PySem.W.Frag) : Sp := fun vs H Q _ => ∃ (z : Str), vs = [.str z] ∧ z.length ≤ 1000 ∧ ∀ H', Same H H' → Q (.bl (letB z 8)) H'
theorem c_is_name (T : Txt K mg) : Cal P w K mg base 2 "is_name" (sp_is_name K) [] := by
  have C_is_lettered := c_is_lettered (P := P) (w := w) (base := base) T
  have sc := sc_is_name
  refine cal_of T.d_is_name sc (fun _ _ _ _ _ _ us hl => match us, hl with | [_], _ => rfl) (fun vs H Q E h => ?_) (fun f cdv A outer s H vs Q E hr h => ?_)
  · obtain ⟨z, rfl, _⟩ := h
    rfl
  · obtain ⟨z, rfl, h⟩ := h
    refine ⟨_, (pss_one (ps_ret (pe_c C_is_lettered hr (by omega) rfl (pa_cons (pv 0) (pa_cons pe_int pa_nil))))), ?_⟩
    exact ⟨_, rfl, z, 8, rfl, h.1, h.2⟩
end
end K16
namespace K16
open PySem L2 Nm
open C8 (Cal Mak pe_c pe_mk pe_gc)
open RZ (ItzT pi_zipA)
section
variable {P : Program} {w : World} {K : PySem.W.Frag} {mg : Str → Option Value} {base : Heap}
def sp_is_word (K : PySem.W.Frag) : Sp := fun vs H Q _ => ∃ (z : Str), vs = [.str z] ∧ z.length ≤ 1000 ∧ ∀ H', Same H H' → Q (.bl (letB z 20)) H'
theorem c_is_word (T : Txt K mg) : Cal P w K mg base 2 "is_word" (sp_is_word K) [] := by
  have C_is_lettered := c_is_lettered (P := P) (w := w) (base := base) T
  have sc := sc_is_word
  refine cal_of T.d_is_word sc (fun _ _ _ _ _ _ us hl => match us, hl with | [_], _ => rfl) (fun vs H Q E h => ?_) (fun f cdv A outer s H vs Q E hr h => ?_)
  · obtain ⟨z, rfl, _⟩ := h
    rfl
  · obtain ⟨z, rfl, h⟩ := h
    refine ⟨_, (pss_one (ps_ret (pe_c C_is_lettered hr (by omega) rfl (pa_cons (pv 0) (pa_cons pe_int pa_nil))))), ?_⟩
    exact ⟨_, rfl, z, 20, rfl, h.1, h.2⟩
end
end K16
namespace K16
open PySem L2 Nm
open C8 (Cal Mak pe_c pe_mk pe_gc)
open RZ (ItzT pi_zipA)
section
variable {P : Program} {w : World} {K : PySem.W.Frag} {mg : Str → Option Value} {base : Heap}
def sp_is_words (K : PySem.W.Frag) : Sp := fun vs H Q _ => ∃ (a : Addr) (zs : List Str) (most : Int), vs = [.ref a, .int most] ∧ H a = some (.tup (zs.map V.str)) ∧ zs.length ≤ 1000 ∧ (∀ z ∈ zs, z.length ≤ 1000) ∧ ∀ H', Same H H' → Q (.bl (rowB zs most)) H'
theorem c_is_words (T : Txt K mg) : Cal P w K mg base 3 "is_words" (sp_is_words K) [] := by
  have C_is_word := c_is_word (P := P) (w := w) (base := base) T
  have sc := sc_is_words
  refine cal_of T.d_is_words sc (fun _ _ _ _ _ _ us hl => match us, hl with | [_, _], _ => rfl) (fun vs H Q E h => ?_) (fun f cdv A outer s H vs Q E hr h => ?_)
  · obtain ⟨a, zs, most, rfl, _⟩ := h
    rfl
  · obtain ⟨a, zs, most, rfl, h⟩ := h
    refine ⟨_, (pss_one (ps_ret (pe_and (pe_callB call_isi rfl T.m_isinstance (by decide +kernel) (pa_cons (pv 0) (pa_cons (pe_bltn (v := .ty "tuple") (u := .type "tuple") rfl T.m_tuple (by decide +kernel) rfl) pa_nil))) (pe_and (pe_cmpR op_le (pe_callB call_len_seq rfl T.m_len (by decide +kernel) (pa_cons (pv 0) pa_nil)) (pv 1) (nomark _)) (pe_one (pe_callB (cr_all rfl) rfl T.m_all (by decide +kernel) (pa_cons (pe_lc (own := [("word", 2)]) (g := gName 2) rfl sc.nd (pi_tup (pv 0)) (blkOk_by (own := [("word", 2)]) (N := ["thing", "most", "word"]) (sc := defScope s_is_words) (by decide +kernel)) (fun _ _ _ _ _ => (pg_name (i := 2) sc.nd rfl (Or.inl rfl))) (fun _ _ _ _ _ => pts_nil) (fun _ _ _ _ _ => (pe_c C_is_word hr (by omega) rfl (pa_cons (pv 2) pa_nil)))) pa_nil))))))), ?_⟩
    obtain ⟨ha, hl, hz, q⟩ := h
    obtain ⟨t, h1, h2⟩ := tyc_tup (K := K) ha
    refine ⟨_, rfl, _, _, t, _, true, rfl, .ty _, h1, h2, true, rfl, ?_⟩
    refine iteT ⟨_, rfl, a, _, rfl, .inr (SqT.of ha), _, rfl, _, _, rfl, rfl, decide (((zs.map V.str).length : Int) ≤ most), rfl, ?_⟩
    rw [List.length_map]
    by_cases c : (zs.length : Int) ≤ most
    · rw [decide_eq_true c]
      refine iteT ⟨_, rfl, a, rfl, ⟨_, SqT.of ha⟩, fun D hD => ?_⟩
      refine lc_tup (K := K) (a := a) (xs := zs.map V.str) (fun i H1 => H1 D = some (.lst ((zs.take i).map fun z => V.bl (letB z 20))) ∧ Same H H1) ⟨upd_same, same_new hD⟩ (fun i H1 _ p => SqT.of (p.2 _ _ ha)) ?_ ?_
      · rintro i x H1 hx ⟨hl1, g⟩
        obtain ⟨z, hz1, rfl⟩ : ∃ z, zs[i]? = some z ∧ x = V.str z := by
          rw [List.getElem?_map] at hx
          cases e : zs[i]? with
          | none =>
            rw [e] at hx
            cases hx
          | some z =>
            rw [e] at hx
            exact ⟨z, rfl, (Option.some.inj hx).symm⟩
        refine ⟨rfl, ?_⟩
        refine ⟨_, rfl, z, rfl, hz z (List.mem_of_getElem? hz1), fun H2 g2 => ?_⟩
        refine ⟨_, g2 _ _ hl1, ?_, ?_, ?_⟩
        · rw [List.length_map, List.length_take]
          have b : (1000 : Nat) < sizeLine := by decide
          omega
        · rw [upd_same, take_one hz1, List.map_append]
          rfl
        · exact same_mut (g.trans g2) hD
      · rintro H1 ⟨hl1, g⟩
        rw [List.length_map, List.take_length] at hl1
        refine ⟨D, zs.map (fun z => letB z 20), rfl, SqL.of (by rw [hl1, List.map_map]; rfl), ?_⟩
        have e : rowB zs most = (zs.map (fun z => letB z 20)).all id := by
          unfold rowB
          rw [decide_eq_true c, Bool.true_and, List.all_map]
          rfl
        have q' := q H1 g
        rw [e] at q'
        exact q'
    · rw [decide_eq_false c]
      refine iteF ?_
      have e : rowB zs most = false := by unfold rowB; rw [decide_eq_false c, Bool.false_and]
      have q' := q H (Same.refl H)
      rw [e] at q'
      exact q'
end
end K16
namespace K16
open PySem L2 Nm
open C8 (Cal Mak pe_c pe_mk pe_gc)
open RZ (ItzT pi_zipA)
section
variable {P : Program} {w : World} {K : PySem.W.Frag} {mg : Str → Option Value} {base : Heap}
def sp_is_board (K : PySem.W.Frag) : Sp := fun vs H Q _ => ∃ (v : V) (b : Bd), vs = [v] ∧ BoardAt H v b ∧ smallBd b ∧ ∀ H', Same H H' → Q (.bl (boardB b)) H'
theorem c_is_board (T : Txt K mg) : Cal P w K mg base 4 "is_board" (sp_is_board K) [] := by
  have C_is_name := c_is_name (P := P) (w := w) (base := base) T
  have C_is_side := c_is_side (P := P) (w := w) (base := base) T
  have C_is_words := c_is_words (P := P) (w := w) (base := base) T
  have sc := sc_is_board
  refine cal_of T.d_is_board sc (fun _ _ _ _ _ _ us hl => match us, hl with | [_], _ => rfl) (fun vs H Q E h => ?_) (fun f cdv A outer s H vs Q E hr h => ?_)
  · obtain ⟨v, b, rfl, _⟩ := h
    rfl
  · obtain ⟨v, b, rfl, h⟩ := h
    refine ⟨_, (pss_cons (ps_if (PW.pt (pw_or (pt_not (pt_val (pe_callB call_isi rfl T.m_isinstance (by decide +kernel) (pa_cons (pv 0) (pa_cons (pe_bltn (v := .ty "tuple") (u := .type "tuple") rfl T.m_tuple (by decide +kernel) rfl) pa_nil))))) (pw_or1 (pt_cmpR op_ne (pe_callB call_len_seq rfl T.m_len (by decide +kernel) (pa_cons (pv 0) pa_nil)) pe_int (nomark _))))) (pss_one (ps_ret pe_bl)) pss_nil)
  (pss_cons (ps_asg (pv 0) (pg_tup rfl (pgs_cons (pg_name (i := 1) sc.nd rfl (Or.inl rfl)) (pgs_cons (pg_name (i := 2) sc.nd rfl (Or.inl rfl)) (pgs_cons (pg_name (i := 3) sc.nd rfl (Or.inl rfl)) pgs_nil)))))
  (pss_one (ps_ret (pe_and (pe_c C_is_name hr (by omega) rfl (pa_cons (pv 1) pa_nil)) (pe_and (pe_c C_is_side hr (by omega) rfl (pa_cons (pv 2) pa_nil)) (pe_one (pe_c C_is_words hr (by omega) rfl (pa_cons (pv 3) (pa_cons (pe_gc rfl T.g_MOST_BEGUN) pa_nil)))))))))), ?_⟩
    obtain ⟨⟨a, r, rfl, h1, h2⟩, ⟨z1, z2, z3⟩, q⟩ := h
    obtain ⟨t, t1, t2⟩ := tyc_tup (K := K) h1
    refine ⟨_, rfl, _, _, t, _, true, rfl, .ty _, t1, t2, true, rfl, ?_⟩
    refine iteF ⟨_, rfl, a, _, rfl, .inr (SqT.of h1), rfl, _, rfl, ?_⟩
    refine iteF ⟨_, rfl, a, _, rfl, SqT.of h1, rfl, _, _, rfl, _, _, rfl, _, _, rfl, rfl, ?_⟩
    refine ⟨_, rfl, b.1, rfl, z1, fun H1 g1 => ⟨letB b.1 8, rfl, ?_⟩⟩
    have e : boardB b = (letB b.1 8 && (within (.int b.2.1) 0 1 && rowB b.2.2 20)) := rfl
    cases e1 : letB b.1 8 with
    | false =>
      refine iteF ?_
      rw [e1, Bool.false_and] at e
      have q' := q H1 g1
      rw [e] at q'
      exact q'
    | true =>
      rw [e1, Bool.true_and] at e
      refine iteT ⟨_, rfl, _, rfl, tyi_int _, within (.int b.2.1) 0 1, rfl, ?_⟩
      cases e2 : within (.int b.2.1) 0 1 with
      | false =>
        refine iteF ?_
        rw [e2, Bool.false_and] at e
        have q' := q H1 g1
        rw [e] at q'
        exact q'
      | true =>
        rw [e2, Bool.true_and] at e
        refine iteT ⟨_, rfl, r, b.2.2, 20, rfl, g1 _ _ h2, z2, z3, fun H2 g2 => ?_⟩
        have q' := q H2 (g1.trans g2)
        rw [e] at q'
        exact q'
end
end K16
namespace K16
open PySem L2 Nm
open C8 (Cal Mak pe_c pe_mk pe_gc)
open RZ (ItzT pi_zipA)
section
variable {P : Program} {w : World} {K : PySem.W.Frag} {mg : Str → Option Value} {base : Heap}
def sp_names_of (K : PySem.W.Frag) : Sp := fun vs H Q _ => ∃ (a : Addr) (bs : List Bd), vs = [.ref a] ∧ BoardsAt H a bs ∧ bs.length < 64 ∧ ∀ H' p ys, Same H H' → H p = none → H' p = some (.tup (ys.map V.str)) → Names (bs.map (·.1)) ys → Q (.ref p) H'
theorem c_names_of (T : Txt K mg) : Cal P w K mg base 1 "names_of" (sp_names_of K) [] := by
  have sc := sc_names_of
  refine cal_of T.d_names_of sc (fun _ _ _ _ _ _ us hl => match us, hl with | [_], _ => rfl) (fun vs H Q E h => ?_) (fun f cdv A outer s H vs Q E hr h => ?_)
  · obtain ⟨a, bs, rfl, _⟩ := h
    rfl
  · obtain ⟨a, bs, rfl, h⟩ := h
    refine ⟨_, (pss_one (ps_ret (pe_callTy call_tuple_of rfl T.m_tuple (by decide +kernel) (pa_cons (pe_callB (Nm.cr_sortTx rfl) rfl T.m_sorted (by decide +kernel) (pa_cons (Nm.pe_nm (own := [("board", 1)]) (g := gName 1) rfl sc.nd (pi_tup (pv 0)) (blkOk_by (own := [("board", 1)]) (N := ["boards", "board"]) (sc := defScope s_names_of) (by decide +kernel)) (fun _ _ _ _ _ => (pg_name (i := 1) sc.nd rfl (Or.inl rfl))) (fun _ _ _ _ _ => (pe_ix (r := rIxT K) ix_tup (pv 1) pe_int (fun _ _ => rfl)))) pa_nil)) pa_nil)))), ?_⟩
    obtain ⟨⟨xs, ha, pr⟩, hl, q⟩ := h
    refine ⟨_, rfl, a, rfl, ⟨_, SqT.of ha⟩, fun D hD => ?_⟩
    refine nm_tup (K := K) (a := a) (xs := xs) (fun i H1 => H1 D = some (TxO w D (gathered ((bs.take i).map (·.1)))) ∧ Same H H1) ⟨upd_same, same_new hD⟩ (fun i H1 _ p => SqT.of (p.2 _ _ ha)) ?_ ?_
    · rintro i x H1 hx ⟨hl1, g⟩
      obtain ⟨b, hb, c, r, rfl, h1, h2⟩ := paired_at pr i x hx
      refine ⟨rfl, ?_⟩
      refine ⟨_, rfl, c, _, 0, .str b.1, rfl, rfl, SqT.of (g _ _ h1), rfl, b.1, _, rfl, hl1, ?_, ?_, ?_⟩
      · have z := (gathered_facts ((bs.take i).map (·.1))).2.2
        rw [List.length_map, List.length_take] at z
        have : (64 : Nat) + 1 < scanBound := by decide
        omega
      · rw [upd_same, take_one hb, List.map_append]
        show some (TxO w D (plus (gathered ((bs.take i).map (·.1))) b.1)) = some (TxO w D (gathered ((bs.take i).map (·.1) ++ [b.1])))
        rw [gathered_snoc]
      · exact same_mut g hD
    · rintro H1 ⟨hl1, g⟩
      have el : xs.length = bs.length := paired_len pr
      rw [el, List.take_length] at hl1
      obtain ⟨f1, f2, f3⟩ := gathered_facts (bs.map (·.1))
      rw [List.length_map] at f3
      refine ⟨D, _, rfl, hl1, by omega, fun ys p pm up hp => ?_⟩
      have g2 : Same H (upd H1 p (.lst (ys.map V.str))) := g.trans (same_new hp)
      refine ⟨p, _, rfl, .inl ⟨SqL.of upd_same, fun l hl => ?_⟩⟩
      refine q _ l ys (g2.trans (same_new hl)) (g2.free hl) upd_same ⟨up, pm.nodup_iff.mpr f1, fun x => ?_⟩
      rw [pm.mem_iff]
      exact f2 x
end
end K16
namespace K16
open PySem L2 Nm
open C8 (Cal Mak pe_c pe_mk pe_gc)
open RZ (ItzT pi_zipA)
section
variable {P : Program} {w : World} {K : PySem.W.Frag} {mg : Str → Option Value} {base : Heap}
def sp_Hall (K : PySem.W.Frag) (C : Addr) : Sp := fun vs H Q _ => ∃ (p dx a : Addr) (bs : List Bd), vs = [.ref p, .ref a] ∧ H p = some (.ins C dx []) ∧ BoardsAt H a bs ∧ (∀ b ∈ bs, boardB b = true ∧ smallBd b) ∧ 1 ≤ bs.length ∧ bs.length ≤ 12 ∧
  ∀ H', HallAt K H' p bs → (∀ b o, H b = some o → b ≠ p → H' b = some o) → Q .non H'
theorem c_Hall (T : Txt K mg) : ∃ C, Mak P w K mg base 5 "Hall" C (sp_Hall K C) [] := by
  obtain ⟨C, fi, fd, cl, mk, hm, F, nB, nN⟩ := T.cls_Hall
  have C_is_board := c_is_board (P := P) (w := w) (base := base) T
  have C_names_of := c_names_of (P := P) (w := w) (base := base) T
  have sc := sc_Hall___init__
  refine ⟨C, ⟨fi, fd, ["self", "boards"], [], mk, F.ok (k := 4) sc (fun vs H Q E h => ?_) (fun cdv A outer s H vs Q E hr h => ?_), hm, F.binds fun _ _ _ _ _ _ us hl => match us, hl with | [_, _], _ => rfl, .nil⟩⟩
  · obtain ⟨p, dx, a, bs, rfl, _⟩ := h
    rfl
  · obtain ⟨p, dx, a, bs, rfl, hp, hb, ok, l1, l12, q⟩ := h
    obtain ⟨xs, ha, pr⟩ := id hb
    have el : xs.length = bs.length := paired_len pr
    obtain ⟨t, t1, t2⟩ := tyc_tup (K := K) ha
    refine ⟨_, (pss_cons (ps_if (PW.pt (pw_or (pt_not (pt_val (pe_callB call_isi rfl T.m_isinstance (by decide +kernel) (pa_cons (pv 1) (pa_cons (pe_bltn (v := .ty "tuple") (u := .type "tuple") rfl T.m_tuple (by decide +kernel) rfl) pa_nil))))) (pw_or1 (pt_not (pt_chain op_le op_le pe_int (pe_callB call_len_seq rfl T.m_len (by decide +kernel) (pa_cons (pv 1) pa_nil)) (pe_gc rfl T.g_MOST_BOARDS)))))) (pss_one ps_never) pss_nil)
  (pss_cons (ps_for PassesOwn.never rfl (Nm.pi_enuT rfl T.m_enumerate (pa_cons (pv 1) pa_nil)) (pg_tup rfl (pgs_cons (pg_name (i := 2) sc.nd rfl (Or.inl rfl)) (pgs_cons (pg_name (i := 3) sc.nd rfl (Or.inl rfl)) pgs_nil))) (pss_one (ps_if (pt_not (pt_val (pe_c C_is_board hr (by omega) rfl (pa_cons (pv 3) pa_nil)))) (pss_one ps_never) pss_nil)))
  (pss_cons (ps_fld (pv 0) (pv 1) rfl)
  (pss_one (ps_fld (pv 0) (pe_c C_names_of hr (by omega) rfl (pa_cons (pv 1) pa_nil)) rfl))))), ?_⟩
    refine ⟨_, rfl, _, _, t, _, true, rfl, .ty _, t1, t2, true, rfl, ?_⟩
    refine iteF ⟨_, rfl, a, _, rfl, .inr (SqT.of ha), _, _, rfl, rfl, decide (1 ≤ (xs.length : Int)), rfl, ?_⟩
    rw [decide_eq_true (show 1 ≤ (xs.length : Int) by omega)]
    refine iteT ⟨_, _, rfl, rfl, decide ((xs.length : Int) ≤ 12), rfl, ?_⟩
    rw [decide_eq_true (show (xs.length : Int) ≤ 12 by omega)]
    refine iteF ?_
    refine ⟨_, rfl, a, xs, rfl, SqT.of ha, ?_⟩
    refine for_it walk_itu (fun i σ H1 => ∃ v2 v3, σ = [some (.ref p), some (.ref a), v2, v3] ∧ Same H H1) ⟨none, none, rfl, Same.refl H⟩ (fun i σ H1 _ ⟨_, _, _, g⟩ => SqT.of (g _ _ ha)) ?_ ?_
    · rintro i x σ H1 H2 hi ⟨v2, v3, rfl, g⟩ ⟨tp, x1, y, rfl, hn, rfl, e1, e2⟩
      obtain ⟨b, hb1, hb2⟩ := paired_at pr i y e2
      have g1 : Same H (upd H1 tp (.tup [x1, y])) := g.trans (same_new hn)
      refine ⟨tp, [x1, y], rfl, SqT.of upd_same, rfl, _, _, rfl, _, _, rfl, rfl, ?_⟩
      obtain ⟨o1, o2⟩ := ok b (List.mem_of_getElem? hb1)
      refine ⟨_, rfl, y, b, rfl, hb2.mono (same_tups g1), o2, fun H3 g3 => ⟨boardB b, rfl, ?_⟩⟩
      rw [o1]
      exact iteF ⟨_, _, rfl, g1.trans g3⟩
    · rintro σ H1 ⟨v2, v3, rfl, g⟩
      refine ⟨_, rfl, _, rfl, p, C, dx, [], rfl, g _ _ hp, cl, nB, (by show 0 < 1000; decide), ?_⟩
      have pa : a ≠ p := fun e => by
        rw [e, hp] at ha
        cases ha
      have other : ∀ {H5 : Hp} {o : HO}, Same H H5 → ∀ b u, H b = some u → b ≠ p → upd H5 p o b = some u := fun g5 b u hu hne => by
        rw [upd_ne hne]
        exact g5 b u hu
      have tups : ∀ b ys, H b = some (.tup ys) → b ≠ p := fun b ys hy e => by
        rw [e, hp] at hy
        cases hy
      refine ⟨_, rfl, a, bs, rfl, hb.mono (fun b ys hy => other g b _ hy (tups b ys hy)), by omega, fun H2 n ys g2 hn h2 nm => ?_⟩
      have hp2 : H2 p = some (.ins C dx (putF "boards" (.ref a) [])) := g2 _ _ upd_same
      refine ⟨_, rfl, p, C, dx, _, rfl, hp2, cl, nN, (by show 1 < 1000; decide), ?_⟩
      have pn : n ≠ p := fun e => by
        rw [e, hp2] at h2
        cases h2
      refine q _ ⟨C, dx, _, a, n, ys, cl, nB, nN, upd_same, ?_, ?_, ?_, ?_, nm⟩ ?_
      · rw [lookup_putF, if_neg nb_ne, lookup_putF, if_pos rfl]
      · rw [lookup_putF, if_pos rfl]
      · refine hb.mono fun b zs hz => ?_
        rw [upd_ne (tups b zs hz)]
        exact g2 _ _ (other g b _ hz (tups b zs hz))
      · rw [upd_ne pn]
        exact h2
      · intro b o ho hne
        rw [upd_ne hne]
        exact g2 _ _ (other g b o ho hne)
end
end K16
namespace K16
open PySem L2 Nm
open C8 (Cal Mak pe_c pe_mk pe_gc)
open RZ (ItzT pi_zipA)
/-- the comparisons of neighbours, as far as the walk has come -/
abbrev ascL (ns : List Int) (i : Nat) : List V := ((ns.zip (ns.drop 1)).take i).map fun p => V.bl (decide (p.1 < p.2))
section
variable {P : Program} {w : World} {K : PySem.W.Frag} {mg : Str → Option Value} {base : Heap}
def sp_is_ascending (K : PySem.W.Frag) : Sp := fun vs H Q _ => ∃ (a : Addr) (ns : List Int), vs = [.ref a] ∧ H a = some (.tup (ns.map V.int)) ∧ ns.length ≤ 1000 ∧ ∀ H', Same H H' → Q (.bl (ascB ns)) H'
theorem c_is_ascending (T : Txt K mg) : Cal P w K mg base 1 "is_ascending" (sp_is_ascending K) [] := by
  have sc := sc_is_ascending
  refine cal_of T.d_is_ascending sc (fun _ _ _ _ _ _ us hl => match us, hl with | [_], _ => rfl) (fun vs H Q E h => ?_) (fun f cdv A outer s H vs Q E hr h => ?_)
  · obtain ⟨a, ns, rfl, _⟩ := h
    rfl
  · obtain ⟨a, ns, rfl, h⟩ := h
    refine ⟨_, (pss_one (ps_ret (pe_callB (cr_all rfl) rfl T.m_all (by decide +kernel) (pa_cons (pe_lc (own := [("one", 1), ("other", 2)]) (g := gTup K 2 (gCons (gName 1) (gCons (gName 2) gNil))) rfl sc.nd (pi_zipA rfl T.m_zip (pa_cons (pv 0) (pa_cons (pe_slice sl_tupA (pv 0) (po_some pe_int) po_none) pa_nil))) (blkOk_by (own := [("one", 1), ("other", 2)]) (N := ["things", "one", "other"]) (sc := defScope s_is_ascending) (by decide +kernel)) (fun _ _ _ _ _ => (pg_tup rfl (pgs_cons (pg_name (i := 1) sc.nd rfl (Or.inl rfl)) (pgs_cons (pg_name (i := 2) sc.nd rfl (Or.inl rfl)) pgs_nil)))) (fun _ _ _ _ _ => pts_nil) (fun _ _ _ _ _ => (pe_cmpR op_lt (pv 1) (pv 2) (nomark _)))) pa_nil)))), ?_⟩
    obtain ⟨ha, hl, q⟩ := h
    have cut : cutV (ns.map V.int) (some 1) none = (ns.drop 1).map V.int := by
      unfold cutV
      have e1 : HT.sIx (ns.map V.int).length 0 (some 1) = min 1 ns.length := by
        rw [List.length_map]
        exact HT.sIx_nat ns.length 0 1
      have e2 : HT.sIx (ns.map V.int).length (ns.map V.int).length none = ns.length := by
        rw [HT.sIx_none, List.length_map]
      rw [e1, e2, ← List.map_drop, ← List.map_take]
      congr 1
      rcases Nat.lt_or_ge 0 ns.length with h | h
      · rw [Nat.min_eq_left h, List.take_of_length_le (by rw [List.length_drop]; exact Nat.le_refl _)]
      · have : ns = [] := List.eq_nil_of_length_eq_zero (by omega)
        subst this
        rfl
    refine ⟨_, rfl, _, rfl, 1, rfl, a, _, rfl, SqT.of ha, fun e => ?_, fun e p hp => ?_⟩
    · have e0 : ns = [] := by
        have e1 := e.1
        rw [List.length_map, show (1 : Int) = ((1 : Nat) : Int) from rfl, HT.sIx_nat] at e1
        exact List.eq_nil_of_length_eq_zero (by omega)
      subst e0
      refine ⟨a, a, [], [], rfl, .inr ⟨SqT.of ha, SqT.of ha, fun D hD => ?_⟩⟩
      refine lc_it (walk_zipT (K := K) (a := a) (b := a) (xs := []) (ys := []) (n := 0) rfl) (fun i H1 => H1 D = some (.lst []) ∧ Same H H1) ⟨upd_same, same_new hD⟩ (fun i H1 _ p => ⟨SqT.of (p.2 _ _ ha), SqT.of (p.2 _ _ ha)⟩) (fun i x H1 H2 hi => absurd hi (Nat.not_lt_zero i)) ?_
      rintro H1 ⟨h1, g⟩
      exact ⟨D, [], rfl, SqL.of h1, q H1 g⟩
    · rw [cut]
      have g0 : Same H (upd H p (.tup ((ns.drop 1).map V.int))) := same_new hp
      have lz : (ns.zip (ns.drop 1)).length = min (ns.map V.int).length ((ns.drop 1).map V.int).length := by
        rw [List.length_zip, List.length_map, List.length_map]
      refine ⟨a, p, _, _, rfl, .inr ⟨SqT.of (g0 _ _ ha), SqT.of upd_same, fun D hD => ?_⟩⟩
      refine lc_it (walk_zipT (K := K) (a := a) (b := p) (xs := ns.map V.int) (ys := (ns.drop 1).map V.int) lz) (fun i H1 => H1 D = some (.lst (ascL ns i)) ∧ Same (upd H p (.tup ((ns.drop 1).map V.int))) H1)
        ⟨upd_same, same_new hD⟩ (fun i H1 _ z => ⟨SqT.of (z.2 _ _ (g0 _ _ ha)), SqT.of (z.2 _ _ upd_same)⟩) ?_ ?_
      · rintro i x H1 H2 hi ⟨h1, g⟩ ⟨tp, x1, y1, rfl, hn, rfl, e1, e2⟩
        obtain ⟨m, hm, rfl⟩ := map_at e1
        obtain ⟨k, hk, rfl⟩ := map_at e2
        have hz : (ns.zip (ns.drop 1))[i]? = some (m, k) := by
          rw [List.getElem?_zip_eq_some]
          exact ⟨hm, hk⟩
        refine ⟨tp, [.int m, .int k], rfl, SqT.of upd_same, rfl, _, _, rfl, _, _, rfl, rfl, rfl, ?_⟩
        refine ⟨_, rfl, _, rfl, m, k, rfl, rfl, _, (same_new hn) _ _ h1, ?_, ?_, ?_⟩
        · rw [List.length_map, List.length_take, List.length_zip]
          have b : (1000 : Nat) < sizeLine := by decide
          omega
        · rw [upd_same]
          show some (HO.lst (ascL ns i ++ [V.bl (decide (m < k))])) = some (HO.lst (ascL ns (i + 1)))
          unfold ascL
          rw [take_one hz, List.map_append]
          rfl
        · exact same_mut (g.trans (same_new hn)) hD
      · rintro H1 ⟨h1, g⟩
        refine ⟨D, (ns.zip (ns.drop 1)).map (fun p => decide (p.1 < p.2)), rfl, SqL.of ?_, ?_⟩
        · rw [h1]
          unfold ascL
          rw [List.take_length, List.map_map]
          rfl
        · have e : ascB ns = ((ns.zip (ns.drop 1)).map (fun p => decide (p.1 < p.2))).all id := by
            unfold ascB
            rw [List.all_map]
            rfl
          have q' := q H1 (g0.trans g)
          rw [e] at q'
          exact q'
end
end K16
namespace K16
open PySem L2 Nm
open C8 (Cal Mak pe_c pe_mk pe_gc)
open RZ (ItzT pi_zipA)
section
variable {P : Program} {w : World} {K : PySem.W.Frag} {mg : Str → Option Value} {base : Heap}
def sp_is_lot (K : PySem.W.Frag) : Sp := fun vs H Q _ => ∃ (a : Addr) (ns : List Int) (many : Int), vs = [.ref a, .int many] ∧ H a = some (.tup (ns.map V.int)) ∧ ns.length ≤ 1000 ∧ ∀ H', Same H H' → Q (.bl (ns.all (fun n => within (.int n) 0 (many - 1)) && ascB ns)) H'
theorem c_is_lot (T : Txt K mg) : Cal P w K mg base 3 "is_lot" (sp_is_lot K) [] := by
  have C_is_ascending := c_is_ascending (P := P) (w := w) (base := base) T
  have C_is_within := c_is_within (P := P) (w := w) (base := base) T
  have sc := sc_is_lot
  refine cal_of T.d_is_lot sc (fun _ _ _ _ _ _ us hl => match us, hl with | [_, _], _ => rfl) (fun vs H Q E h => ?_) (fun f cdv A outer s H vs Q E hr h => ?_)
  · obtain ⟨a, ns, many, rfl, _⟩ := h
    rfl
  · obtain ⟨a, ns, many, rfl, h⟩ := h
    refine ⟨_, (pss_cons (ps_if (PW.pt (pw_or (pt_not (pt_val (pe_callB call_isi rfl T.m_isinstance (by decide +kernel) (pa_cons (pv 0) (pa_cons (pe_bltn (v := .ty "tuple") (u := .type "tuple") rfl T.m_tuple (by decide +kernel) rfl) pa_nil))))) (pw_or1 (pt_not (pt_val (pe_callB (cr_all rfl) rfl T.m_all (by decide +kernel) (pa_cons (pe_lc (own := [("number", 2)]) (g := gName 2) rfl sc.nd (pi_tup (pv 0)) (blkOk_by (own := [("number", 2)]) (N := ["thing", "many", "number"]) (sc := defScope s_is_lot) (by decide +kernel)) (fun _ _ _ _ _ => (pg_name (i := 2) sc.nd rfl (Or.inl rfl))) (fun _ _ _ _ _ => pts_nil) (fun _ _ _ _ _ => (pe_c C_is_within hr (by omega) rfl (pa_cons (pv 2) (pa_cons pe_int (pa_cons (pe_op op_sub (pv 1) pe_int) pa_nil)))))) pa_nil))))))) (pss_one (ps_ret pe_bl)) pss_nil)
  (pss_one (ps_ret (pe_c C_is_ascending hr (by omega) rfl (pa_cons (pv 0) pa_nil))))), ?_⟩
    obtain ⟨ha, hl, q⟩ := h
    obtain ⟨t, t1, t2⟩ := tyc_tup (K := K) ha
    refine ⟨_, rfl, _, _, t, _, true, rfl, .ty _, t1, t2, true, rfl, ?_⟩
    refine iteF ⟨_, rfl, a, rfl, ⟨_, SqT.of ha⟩, fun D hD => ?_⟩
    refine lc_tup (K := K) (a := a) (xs := ns.map V.int) (fun i H1 => H1 D = some (.lst ((ns.take i).map fun n => V.bl (within (.int n) 0 (many - 1)))) ∧ Same H H1) ⟨upd_same, same_new hD⟩ (fun i H1 _ p => SqT.of (p.2 _ _ ha)) ?_ ?_
    · rintro i x H1 hx ⟨h1, g⟩
      obtain ⟨n, hn, rfl⟩ := map_at hx
      refine ⟨rfl, ?_⟩
      refine ⟨_, rfl, _, rfl, many, 1, rfl, rfl, .int n, 0, many - 1, rfl, tyi_int n, _, h1, ?_, ?_, same_mut g hD⟩
      · rw [List.length_map, List.length_take]
        have b : (1000 : Nat) < sizeLine := by decide
        omega
      · rw [upd_same, take_one hn, List.map_append]
        rfl
    · rintro H1 ⟨h1, g⟩
      rw [List.length_map, List.take_length] at h1
      refine ⟨D, ns.map (fun n => within (.int n) 0 (many - 1)), rfl, SqL.of (by rw [h1, List.map_map]; rfl), ?_⟩
      have e : (ns.map (fun n => within (.int n) 0 (many - 1))).all id = ns.all (fun n => within (.int n) 0 (many - 1)) := by
        rw [List.all_map]
        rfl
      rw [e]
      refine ⟨_, rfl, ?_⟩
      cases c : ns.all (fun n => within (.int n) 0 (many - 1)) with
      | false =>
        refine iteT ?_
        have q' := q H1 g
        rw [c, Bool.false_and] at q'
        exact q'
      | true =>
        refine iteF ?_
        refine ⟨_, rfl, a, ns, rfl, g _ _ ha, hl, fun H2 g2 => ?_⟩
        have q' := q H2 (g.trans g2)
        rw [c, Bool.true_and] at q'
        exact q'
end
end K16
namespace K16
open PySem L2 Nm
open C8 (Cal Mak pe_c pe_mk pe_gc)
open RZ (ItzT pi_zipA)
section
variable {P : Program} {w : World} {K : PySem.W.Frag} {mg : Str → Option Value} {base : Heap}
def sp_parts_of (K : PySem.W.Frag) : Sp := fun vs H Q _ => ∃ (a p : Addr) (kd : AKind), vs = [.ref a] ∧ (∃ xs, H a = some (.tup (kd.head ++ [.ref p])) ∧ H p = some (.tup xs) ∧ kd.ok ∧ xs.length ≤ 24) ∧ ∀ H', Same H H' → Q (.ref p) H'
theorem c_parts_of (T : Txt K mg) : Cal P w K mg base 3 "parts_of" (sp_parts_of K) [] := by
  have C_is_within := c_is_within (P := P) (w := w) (base := base) T
  have sc := sc_parts_of
  refine cal_of T.d_parts_of sc (fun _ _ _ _ _ _ us hl => match us, hl with | [_], _ => rfl) (fun vs H Q E h => ?_) (fun f cdv A outer s H vs Q E hr h => ?_)
  · obtain ⟨a, p, kd, rfl, _⟩ := h
    rfl
  · obtain ⟨a, p, kd, rfl, h⟩ := h
    obtain ⟨⟨xs, ha, hp, ok, l24⟩, q⟩ := h
    obtain ⟨t, t1, t2⟩ := tyc_tup (K := K) ha
    refine ⟨_, (pss_cons (ps_if (PW.pt (pw_or (pt_not (pt_val (pe_callB call_isi rfl T.m_isinstance (by decide +kernel) (pa_cons (pv 0) (pa_cons (pe_bltn (v := .ty "tuple") (u := .type "tuple") rfl T.m_tuple (by decide +kernel) rfl) pa_nil))))) (pw_or (pt_cmpR op_notIn_seq (pe_callB call_len_seq rfl T.m_len (by decide +kernel) (pa_cons (pv 0) pa_nil)) (pe_tup (pa_cons pe_int (pa_cons pe_int pa_nil))) rfl) (pw_or1 (pt_not (pt_val (pe_callB call_isi rfl T.m_isinstance (by decide +kernel) (pa_cons (pe_ix ix_tup (pv 0) pe_int (fun _ _ => rfl)) (pa_cons (pe_bltn (v := .ty "str") (u := .type "str") rfl T.m_str (by decide +kernel) rfl) pa_nil))))))))) (pss_one (ps_ret pe_non)) pss_nil)
  (pss_cons (ps_if (PW.pt (pw_and (pt_cmpR op_eq (pe_callB call_len_seq rfl T.m_len (by decide +kernel) (pa_cons (pv 0) pa_nil)) pe_int (nomark _)) (pw_and1 (pt_cmpR op_notIn_seq (pe_ix ix_tup (pv 0) pe_int (fun _ _ => rfl)) (pe_tup (pa_cons pe_str (pa_cons pe_str pa_nil))) rfl)))) (pss_one (ps_ret pe_non)) pss_nil)
  (pss_cons (ps_if (PW.pt (pw_and (pt_cmpR op_eq (pe_callB call_len_seq rfl T.m_len (by decide +kernel) (pa_cons (pv 0) pa_nil)) pe_int (nomark _)) (pw_and1 (pt_not (PW.pt (pw_and (pt_cmpR op_eq (pe_ix ix_tup (pv 0) pe_int (fun _ _ => rfl)) pe_str (nomark _)) (pw_and1 (pt_val (pe_c C_is_within hr (by omega) rfl (pa_cons (pe_ix ix_tup (pv 0) pe_int (fun _ _ => rfl)) (pa_cons pe_int (pa_cons (pe_gc rfl T.g_MOST_LEAST) pa_nil)))))))))))) (pss_one (ps_ret pe_non)) pss_nil)
  (pss_cons (ps_set (i := 1) sc.nd rfl (Or.inl rfl) (pe_ix ix_tup (pv 0) (pe_un un_neg pe_int) (fun _ _ => rfl)))
  (pss_one (ps_ret (pe_ifExp (PW.pt (pw_and (pt_val (pe_callB call_isi rfl T.m_isinstance (by decide +kernel) (pa_cons (pv 1) (pa_cons (pe_bltn (v := .ty "tuple") (u := .type "tuple") rfl T.m_tuple (by decide +kernel) rfl) pa_nil)))) (pw_and1 (pt_cmpR op_le (pe_callB call_len_seq rfl T.m_len (by decide +kernel) (pa_cons (pv 1) pa_nil)) (pe_gc rfl T.g_MOST_PARTS) (nomark _))))) (pv 1) pe_non))))))), ?_⟩
    refine ⟨_, rfl, _, _, t, _, true, rfl, .ty _, t1, t2, true, rfl, ?_⟩
    refine iteF ⟨_, rfl, a, _, rfl, .inr (SqT.of ha), l2, fun c2 hc2 => ?_⟩
    have g1 : Same H (upd H c2 (.tup [.int 2, .int 3])) := same_new hc2
    have rest : ∀ H1 : Hp, Same H H1 → ∃ x H2, Same H1 H2 ∧ x = V.ref p ∧ Q x H2 := fun H1 g => ⟨_, H1, Same.refl H1, rfl, q H1 g⟩
    have last : ∀ (H1 : Hp), Same H H1 → ∃ t, TyX K H1 (.ref p) t ∧ PySem.W.kitOne K t (.type "tuple") = some true := fun H1 g => tyc_tup (g _ _ hp)
    cases kd with
    | all =>
      refine ⟨c2, _, rfl, .inr (SqT.of upd_same), rfl, rfl, _, rfl, ?_⟩
      obtain ⟨u, u1, u2⟩ := tyc_str (K := K) (H := upd H c2 (.tup [.int 2, .int 3])) "all"
      refine iteN (nt rfl) ⟨_, rfl, a, _, 0, .str "all", rfl, rfl, SqT.of (g1 _ _ ha), rfl, _, _, u, _, true, rfl, .ty _, u1, u2, true, rfl, ?_⟩
      refine iteF ⟨_, rfl, a, _, rfl, .inr (SqT.of (g1 _ _ ha)), rfl, _, rfl, ?_⟩
      refine iteP rfl ⟨_, rfl, a, _, 0, .str "all", rfl, rfl, SqT.of (g1 _ _ ha), rfl, l2, fun c3 hc3 => ⟨c3, _, rfl, .inr (SqT.of upd_same), rfl, rfl, _, rfl, ?_⟩⟩
      have g2 := g1.trans (same_new (o := .tup [.str "all", .str "some"]) hc3)
      refine iteN (nt rfl) ⟨_, rfl, a, _, rfl, .inr (SqT.of (g2 _ _ ha)), rfl, _, rfl, ?_⟩
      refine iteN (nt rfl) ?_
      refine iteN (nt rfl) ⟨_, rfl, 1, rfl, a, _, -1, .ref p, rfl, rfl, SqT.of (g2 _ _ ha), rfl, ?_⟩
      obtain ⟨v, v1, v2⟩ := last _ g2
      refine ⟨_, rfl, _, _, v, _, true, rfl, .ty _, v1, v2, true, rfl, ?_⟩
      refine iteT ⟨_, rfl, p, _, rfl, .inr (SqT.of (g2 _ _ hp)), _, _, rfl, rfl, decide ((xs.length : Int) ≤ 24), rfl, ?_⟩
      exact iteP (decide_eq_true (by omega)) ⟨_, rfl, q _ g2⟩
    | some =>
      refine ⟨c2, _, rfl, .inr (SqT.of upd_same), rfl, rfl, _, rfl, ?_⟩
      obtain ⟨u, u1, u2⟩ := tyc_str (K := K) (H := upd H c2 (.tup [.int 2, .int 3])) "some"
      refine iteN (nt rfl) ⟨_, rfl, a, _, 0, .str "some", rfl, rfl, SqT.of (g1 _ _ ha), rfl, _, _, u, _, true, rfl, .ty _, u1, u2, true, rfl, ?_⟩
      refine iteF ⟨_, rfl, a, _, rfl, .inr (SqT.of (g1 _ _ ha)), rfl, _, rfl, ?_⟩
      refine iteP rfl ⟨_, rfl, a, _, 0, .str "some", rfl, rfl, SqT.of (g1 _ _ ha), rfl, l2, fun c3 hc3 => ⟨c3, _, rfl, .inr (SqT.of upd_same), rfl, rfl, _, rfl, ?_⟩⟩
      have g2 := g1.trans (same_new (o := .tup [.str "all", .str "some"]) hc3)
      refine iteN (nt rfl) ⟨_, rfl, a, _, rfl, .inr (SqT.of (g2 _ _ ha)), rfl, _, rfl, ?_⟩
      refine iteN (nt rfl) ?_
      refine iteN (nt rfl) ⟨_, rfl, 1, rfl, a, _, -1, .ref p, rfl, rfl, SqT.of (g2 _ _ ha), rfl, ?_⟩
      obtain ⟨v, v1, v2⟩ := last _ g2
      refine ⟨_, rfl, _, _, v, _, true, rfl, .ty _, v1, v2, true, rfl, ?_⟩
      refine iteT ⟨_, rfl, p, _, rfl, .inr (SqT.of (g2 _ _ hp)), _, _, rfl, rfl, decide ((xs.length : Int) ≤ 24), rfl, ?_⟩
      exact iteP (decide_eq_true (by omega)) ⟨_, rfl, q _ g2⟩
    | least k =>
      refine ⟨c2, _, rfl, .inr (SqT.of upd_same), rfl, rfl, _, rfl, ?_⟩
      obtain ⟨u, u1, u2⟩ := tyc_str (K := K) (H := upd H c2 (.tup [.int 2, .int 3])) "least"
      refine iteN (nt rfl) ⟨_, rfl, a, _, 0, .str "least", rfl, rfl, SqT.of (g1 _ _ ha), rfl, _, _, u, _, true, rfl, .ty _, u1, u2, true, rfl, ?_⟩
      refine iteF ⟨_, rfl, a, _, rfl, .inr (SqT.of (g1 _ _ ha)), rfl, _, rfl, ?_⟩
      refine iteN (nt rfl) ?_
      refine iteN (nt rfl) ⟨_, rfl, a, _, rfl, .inr (SqT.of (g1 _ _ ha)), rfl, _, rfl, ?_⟩
      refine iteP rfl ⟨_, rfl, a, _, 0, .str "least", rfl, rfl, SqT.of (g1 _ _ ha), rfl, rfl, _, rfl, ?_⟩
      refine iteP rfl ⟨_, rfl, a, _, 1, .int k, rfl, rfl, SqT.of (g1 _ _ ha), rfl, .int k, 0, 25, rfl, tyi_int k, within (.int k) 0 25, rfl, ?_⟩
      have e25 : within (.int k) 0 25 = true := by
        show (decide (0 ≤ k) && decide (k ≤ 25)) = true
        rw [decide_eq_true ok.1, decide_eq_true ok.2]
        rfl
      rw [e25]
      refine iteF ⟨_, rfl, 1, rfl, a, _, -1, .ref p, rfl, rfl, SqT.of (g1 _ _ ha), rfl, ?_⟩
      obtain ⟨v, v1, v2⟩ := last _ g1
      refine ⟨_, rfl, _, _, v, _, true, rfl, .ty _, v1, v2, true, rfl, ?_⟩
      refine iteT ⟨_, rfl, p, _, rfl, .inr (SqT.of (g1 _ _ hp)), _, _, rfl, rfl, decide ((xs.length : Int) ≤ 24), rfl, ?_⟩
      exact iteP (decide_eq_true (by omega)) ⟨_, rfl, q _ g1⟩
end
end K16
namespace K16
open PySem L2 Nm
open C8 (Cal Mak pe_c pe_mk pe_gc)
open RZ (ItzT pi_zipA)
section
variable {P : Program} {w : World} {K : PySem.W.Frag} {mg : Str → Option Value} {base : Heap}
def sp_size_of (d : Nat) : Sp := fun vs H Q _ => ∃ (v : V) (mn deep : Int), vs = [v, .int mn, .int deep] ∧ ∃ many s φ, AimV H many d v s φ ∧ many ≤ mn + 1 ∧ (d : Int) ≤ deep ∧ s ≤ 200 ∧ ∀ H', Same H H' → Q (.int s) H'
theorem c_size_of (T : Txt K mg) : ∀ d : Nat, Cal P w K mg base (4 + d) "size_of" (sp_size_of d) []
  | 0 => cal_void T.d_size_of (ps := ["thing", "most_number", "deep"]) (fun _ _ _ _ _ _ us hl => match us, hl with | [_, _, _], _ => rfl) fun vs H Q E h => by
    obtain ⟨v, mn, deep, _, many, s, φ, hA, _⟩ := h
    exact hA
  | d + 1 => by
    have C_size_of := c_size_of T d
    have C_is_integer := c_is_integer (P := P) (w := w) (base := base) T
    have C_parts_of := c_parts_of (P := P) (w := w) (base := base) T
    have sc := sc_size_of
    refine cal_of (k := 4 + d) T.d_size_of sc (fun _ _ _ _ _ _ us hl => match us, hl with | [_, _, _], _ => rfl) (fun vs H Q E h => ?_) (fun f cdv A outer s H vs Q E hr h => ?_)
    · obtain ⟨v, mn, deep, rfl, _⟩ := h
      rfl
    · obtain ⟨v, mn, deep, rfl, many, sz, φ, hA, hm, hd, h200, q⟩ := h
      refine ⟨_, (pss_cons (ps_if (pt_val (pe_c C_is_integer hr (by omega) rfl (pa_cons (pv 0) pa_nil))) (pss_one (ps_ret (pe_ifExp (PW.pt (pw_and (pt_cmpR op_gt (pv 2) pe_int (nomark _)) (pw_and1 (pt_chain op_le op_le pe_int (pv 0) (pv 1))))) pe_int pe_int))) pss_nil)
  (pss_cons (ps_set (i := 3) sc.nd rfl (Or.inl rfl) (pe_c C_parts_of hr (by omega) rfl (pa_cons (pv 0) pa_nil)))
  (pss_cons (ps_if (PW.pt (pw_or (pt_cmpR op_isN (pv 3) pe_non (nomark _)) (pw_or1 (pt_cmpR op_eq (pv 2) pe_int (nomark _))))) (pss_one (ps_ret pe_int)) pss_nil)
  (pss_cons (ps_set (i := 4) sc.nd rfl (Or.inl rfl) pe_int)
  (pss_cons (ps_for PassesOwn.never rfl (pi_tup (pv 3)) (pg_name (i := 5) sc.nd rfl (Or.inl rfl)) (pss_cons (ps_set (i := 6) sc.nd rfl (Or.inl rfl) (pe_c C_size_of hr (by omega) rfl (pa_cons (pv 5) (pa_cons (pv 1) (pa_cons (pe_op op_sub (pv 2) pe_int) pa_nil)))))
  (pss_cons (ps_aug (i := 4) sc.nd rfl (Or.inl rfl) (pv 6) ip_add)
  (pss_one (ps_if (PW.pt (pw_or (pt_cmpR op_eq (pv 6) pe_int (nomark _)) (pw_or1 (pt_cmpR op_gt (pv 4) (pe_gc rfl T.g_MOST_AIMS) (nomark _))))) (pss_one (ps_ret pe_int)) pss_nil)))))
  (pss_one (ps_ret (pv 4)))))))), ?_⟩
      rcases hA with ⟨n, rfl, n0, nm, rfl, _⟩ | ⟨a, p, xs, kd, ys, rfl, ha, hp, ok, l24, pr, es, _⟩
      · refine ⟨_, rfl, _, rfl, tyi_int n, true, rfl, ?_⟩
        refine iteT ⟨_, rfl, deep, 0, rfl, rfl, decide (0 < deep), rfl, ?_⟩
        rw [decide_eq_true (show 0 < deep by omega)]
        refine iteT ⟨_, rfl, 0, n, rfl, rfl, decide (0 ≤ n), rfl, ?_⟩
        rw [decide_eq_true n0]
        refine iteT ⟨_, rfl, n, mn, rfl, rfl, decide (n ≤ mn), rfl, ?_⟩
        rw [decide_eq_true (show n ≤ mn by omega)]
        exact iteT (q H (Same.refl H))
      · refine ⟨_, rfl, _, rfl, tyi_tup ha, false, rfl, ?_⟩
        refine iteF ⟨_, rfl, a, p, kd, rfl, ⟨xs, ha, hp, ok, l24⟩, fun H1 g1 => ?_⟩
        refine ⟨_, rfl, rfl, _, rfl, ?_⟩
        refine iteN (nt rfl) ⟨_, rfl, rfl, _, rfl, ?_⟩
        refine iteN (nt (int_ne (by omega))) ⟨_, rfl, p, rfl, ⟨_, SqT.of (g1 _ _ hp)⟩, ?_⟩
        have el : xs.length = ys.length := paired_len pr
        refine for_tup (K := K) (a := p) (xs := xs) (fun i σ H2 => ∃ v5 v6, σ = [some (.ref a), some (.int mn), some (.int deep), some (.ref p), some (.int (((1 + ((ys.map (·.1)).take i).sum : Nat) : Nat) : Int)), v5, v6] ∧ Same H H2)
          ⟨none, none, rfl, g1⟩ (fun i σ H2 _ ⟨_, _, _, g⟩ => SqT.of (g _ _ hp)) ?_ ?_
        · rintro i x σ H2 hx ⟨v5, v6, rfl, g⟩
          obtain ⟨y, hy, hA⟩ := paired_at pr i x hx
          have hy1 : (ys.map (·.1))[i]? = some y.1 := by rw [List.getElem?_map, hy]; rfl
          have le := sum_take_le (ys.map (·.1)) (i + 1)
          rw [sum_take_one hy1] at le
          have yp := hA.pos
          refine ⟨_, rfl, _, rfl, _, rfl, deep, 1, rfl, rfl, x, mn, deep - 1, rfl, many, y.1, y.2, hA.mono (same_tups g), hm, by omega, by omega, fun H3 g3 => ?_⟩
          refine ⟨_, rfl, _, rfl, _, _, rfl, rfl, ?_⟩
          obtain ⟨u, hu1, hu2⟩ := T.g_MOST_AIMS
          refine ⟨_, rfl, rfl, _, rfl, ?_⟩
          refine iteN (nt (int_ne (by omega))) ⟨_, rfl, _, _, rfl, rfl, _, rfl, ?_⟩
          refine iteN (nt (decide_eq_false (by dsimp only; omega))) ?_
          refine ⟨some x, some (.int y.1), ?_, g.trans g3⟩
          rw [sum_take_one hy1]
          have e : (((1 + (((ys.map (·.1)).take i).sum + y.1) : Nat) : Nat) : Int) = (((1 + ((ys.map (·.1)).take i).sum : Nat) : Nat) : Int) + (y.1 : Int) := by omega
          rw [e]
          rfl
        · rintro σ H2 ⟨v5, v6, rfl, g⟩
          refine ⟨_, rfl, ?_⟩
          rw [el, ← List.length_map (f := fun y : Nat × ASem => y.1), List.take_length, ← es]
          exact q H2 g
end
end K16
namespace K16
open PySem L2 Nm
open C8 (Cal Mak pe_c pe_mk pe_gc)
open RZ (ItzT pi_zipA)
section
variable {P : Program} {w : World} {K : PySem.W.Frag} {mg : Str → Option Value} {base : Heap}
def sp_is_aim (K : PySem.W.Frag) : Sp := fun vs H Q _ => ∃ (h0 : Addr) (v : V), vs = [.ref h0, v] ∧ ∃ bs d s φ, HallAt K H h0 bs ∧ AimV H bs.length d v s φ ∧ d ≤ 8 ∧ s ≤ 200 ∧ 1 ≤ bs.length ∧ bs.length ≤ 1000000 ∧ ∀ H', Same H H' → Q (.bl true) H'
theorem c_is_aim (T : Txt K mg) : Cal P w K mg base 13 "is_aim" (sp_is_aim K) [] := by
  have sc := sc_is_aim
  refine cal_of T.d_is_aim sc (fun _ _ _ _ _ _ us hl => match us, hl with | [_, _], _ => rfl) (fun vs H Q E h => ?_) (fun f cdv A outer s H vs Q E hr h => ?_)
  · obtain ⟨h0, v, rfl, _⟩ := h
    rfl
  · obtain ⟨h0, v, rfl, h⟩ := h
    obtain ⟨bs, d, s0, φ, hH, hA, d8, h200, l1, l2', q⟩ := h
    obtain ⟨C, dx, fs, a, n, ys, cl, nB, nN, hp, fb, fn, ⟨xs, hb, pr⟩, hn, nm⟩ := hH
    have el : xs.length = bs.length := paired_len pr
    have C_size_of := c_size_of (P := P) (w := w) (base := base) T 8
    refine ⟨_, (pss_one (ps_ret (pe_cmpR op_gt (pe_c C_size_of hr (by omega) rfl (pa_cons (pv 1) (pa_cons (pe_callB (call_min2 rfl) rfl T.m_min (by decide +kernel) (pa_cons (pe_op op_sub (pe_callB call_len_seq rfl T.m_len (by decide +kernel) (pa_cons (pe_fld (pv 0) rfl) pa_nil)) pe_int) (pa_cons (pe_gc rfl T.g_MOST_NUMBER) pa_nil))) (pa_cons (pe_gc rfl T.g_MOST_DEEP) pa_nil)))) pe_int (nomark _)))), ?_⟩
    refine ⟨_, rfl, _, rfl, h0, C, dx, fs, _, rfl, hp, cl, nB, fb, a, _, rfl, .inr (SqT.of hb), _, _, rfl, rfl, ?_⟩
    refine ⟨_, _, rfl, ?_⟩
    have mn : (if (1000000 : Int) < (xs.length : Int) - 1 then (1000000 : Int) else (xs.length : Int) - 1) = (bs.length : Int) - 1 := by
      rw [if_neg (by omega), el]
    rw [mn]
    refine ⟨v, _, 8, rfl, bs.length, s0, φ, hA.deeper d8, by omega, by omega, h200, fun H1 g1 => ?_⟩
    refine ⟨_, _, rfl, rfl, ?_⟩
    show Q (V.bl (decide ((0 : Int) < (s0 : Int)))) H1
    rw [decide_eq_true (show (0 : Int) < (s0 : Int) by have := hA.pos; omega)]
    exact q H1 g1
end
end K16
namespace K16
open PySem L2 Nm
open C8 (Cal Mak pe_c pe_mk pe_gc)
open RZ (ItzT pi_zipA)
section
variable {P : Program} {w : World} {K : PySem.W.Frag} {mg : Str → Option Value} {base : Heap}
def sp_check_aim (K : PySem.W.Frag) : Sp := fun vs H Q _ => ∃ (h0 : Addr) (v : V), vs = [.ref h0, v] ∧ ∃ bs d s φ, HallAt K H h0 bs ∧ AimV H bs.length d v s φ ∧ d ≤ 8 ∧ s ≤ 200 ∧ 1 ≤ bs.length ∧ bs.length ≤ 1000000 ∧ ∀ H', Same H H' → Q .non H'
theorem c_check_aim (T : Txt K mg) : Cal P w K mg base 14 "check_aim" (sp_check_aim K) [] := by
  have C_is_aim := c_is_aim (P := P) (w := w) (base := base) T
  have sc := sc_check_aim
  refine cal_of T.d_check_aim sc (fun _ _ _ _ _ _ us hl => match us, hl with | [_, _], _ => rfl) (fun vs H Q E h => ?_) (fun f cdv A outer s H vs Q E hr h => ?_)
  · obtain ⟨h0, v, rfl, _⟩ := h
    rfl
  · obtain ⟨h0, v, rfl, h⟩ := h
    refine ⟨_, (pss_one (ps_if (pt_not (pt_val (pe_c C_is_aim hr (by omega) rfl (pa_cons (pv 0) (pa_cons (pv 1) pa_nil))))) (pss_one ps_never) pss_nil)), ?_⟩
    obtain ⟨bs, d, s0, φ, hH, hA, d8, h200, l1, l2', q⟩ := h
    refine ⟨_, rfl, _, rfl, h0, v, rfl, bs, d, s0, φ, hH, hA, d8, h200, l1, l2', fun H1 g1 => ⟨true, rfl, ?_⟩⟩
    exact iteF (q H1 g1)
end
end K16
namespace K16
open PySem L2 Nm
open C8 (Cal Mak pe_c pe_mk pe_gc)
open RZ (ItzT pi_zipA)
section
variable {P : Program} {w : World} {K : PySem.W.Frag} {mg : Str → Option Value} {base : Heap}
def sp_least_needed (K : PySem.W.Frag) : Sp := fun vs H Q _ => ∃ (a : Addr), vs = [.ref a] ∧ ∃ p xs kd, H a = some (.tup (AKind.head kd ++ [.ref p])) ∧ H p = some (.tup xs) ∧ Q (.int (kd.need xs.length)) H
theorem c_least_needed (T : Txt K mg) : Cal P w K mg base 1 "least_needed" (sp_least_needed K) [] := by
  have sc := sc_least_needed
  refine cal_of T.d_least_needed sc (fun _ _ _ _ _ _ us hl => match us, hl with | [_], _ => rfl) (fun vs H Q E h => ?_) (fun f cdv A outer s H vs Q E hr h => ?_)
  · obtain ⟨a, rfl, _⟩ := h
    rfl
  · obtain ⟨a, rfl, h⟩ := h
    refine ⟨_, (pss_cons (ps_if (pt_cmpR op_eq (pe_ix ix_tup (pv 0) pe_int (fun _ _ => rfl)) pe_str (nomark _)) (pss_one (ps_ret (pe_ix ix_tup (pv 0) pe_int (fun _ _ => rfl)))) pss_nil)
  (pss_one (ps_ret (pe_ifExp (pt_cmpR op_eq (pe_ix ix_tup (pv 0) pe_int (fun _ _ => rfl)) pe_str (nomark _)) (pe_callB call_len_seq rfl T.m_len (by decide +kernel) (pa_cons (pe_ix ix_tup (pv 0) (pe_un un_neg pe_int) (fun _ _ => rfl)) pa_nil)) pe_int)))), ?_⟩
    obtain ⟨p, xs, kd, ha, hp, q⟩ := h
    cases kd with
    | all =>
      refine ⟨_, rfl, a, _, 0, .str "all", rfl, rfl, SqT.of ha, rfl, rfl, _, rfl, ?_⟩
      refine iteN (nt rfl) ⟨_, rfl, a, _, 0, .str "all", rfl, rfl, SqT.of ha, rfl, rfl, _, rfl, ?_⟩
      exact iteP rfl ⟨_, rfl, 1, rfl, a, _, -1, .ref p, rfl, rfl, SqT.of ha, rfl, p, _, rfl, .inr (SqT.of hp), q⟩
    | some =>
      refine ⟨_, rfl, a, _, 0, .str "some", rfl, rfl, SqT.of ha, rfl, rfl, _, rfl, ?_⟩
      refine iteN (nt rfl) ⟨_, rfl, a, _, 0, .str "some", rfl, rfl, SqT.of ha, rfl, rfl, _, rfl, ?_⟩
      exact iteN (nt rfl) q
    | least k =>
      refine ⟨_, rfl, a, _, 0, .str "least", rfl, rfl, SqT.of ha, rfl, rfl, _, rfl, ?_⟩
      exact iteP rfl ⟨_, rfl, a, _, 1, .int k, rfl, rfl, SqT.of ha, rfl, q⟩
end
end K16
namespace K16
open PySem L2 Nm
open C8 (Cal Mak pe_c pe_mk pe_gc)
open RZ (ItzT pi_zipA)
/-- the list of the counts, as ints -/
structure CL (L : List Int) (least : Nat) (P : Nat → Int → Prop) : Prop where
  len : L.length = least + 1
  at_ : ∀ k, k ≤ least → P k (L.getD k 0)
theorem b2_or (a b : Bool) : PySem.Builtin.bitOr (b2 a) (b2 b) = b2 (a || b) := by cases a <;> cases b <;> decide
theorem b2_and (a b : Bool) : PySem.Builtin.bitAnd (b2 a) (b2 b) = b2 (a && b) := by cases a <;> cases b <;> decide
/-- how many of the first i are there -/
abbrev cnt (bs : List Bool) (i : Nat) : Nat := (bs.take i).count true
theorem cnt_le (bs : List Bool) (i : Nat) : cnt bs i ≤ i := by
  have := List.count_le_length (a := true) (l := bs.take i)
  rw [List.length_take] at this
  show (bs.take i).count true ≤ i
  omega
theorem rep_flat : ∀ n : Nat, (List.replicate n [V.int 0]).flatten = List.replicate n (V.int 0)
  | 0 => rfl
  | n + 1 => by
    rw [List.replicate_succ, List.flatten_cons, rep_flat n]
    rfl
theorem cnt_succ {bs : List Bool} {i : Nat} {b : Bool} (h : bs[i]? = some b) : cnt bs (i + 1) = cnt bs i + (if b then 1 else 0) := by
  unfold cnt
  rw [take_one h, List.count_append]
  cases b <;> simp
/-- what is known of the counts behind i parts of n -/
def Good (bs : List Bool) (least i : Nat) (k : Nat) (x : Int) : Prop := (k = 0 → x = 1) ∧ (1 ≤ k → least + i ≤ k + bs.length → x = b2 (decide (k ≤ cnt bs i)))
theorem getD_set {L : List Int} {j : Nat} {v : Int} (hj : j < L.length) (k : Nat) : (L.set j v).getD k 0 = if k = j then v else L.getD k 0 := by
  by_cases e : k = j
  · subst e
    rw [if_pos rfl, List.getD_eq_getElem?_getD, List.getElem?_set_self hj]
    rfl
  · rw [if_neg e, List.getD_eq_getElem?_getD, List.getElem?_set_ne (fun h => e h.symm), List.getD_eq_getElem?_getD]
/-- the value that is put at k -/
def put (bs : List Bool) (i : Nat) (b : Bool) (k : Nat) : Int := b2 (decide (k ≤ cnt bs i + (if b then 1 else 0)))
theorem put_eq {bs : List Bool} {i k : Nat} {b : Bool} {x y : Int} (hk : 1 ≤ k) (hx : x = b2 (decide (k ≤ cnt bs i))) (hy : y = b2 (decide (k - 1 ≤ cnt bs i))) : PySem.Builtin.bitOr x (PySem.Builtin.bitAnd y (b2 b)) = put bs i b k := by
  rw [hx, hy, b2_and, b2_or]
  unfold put
  congr 1
  cases b
  · simp
  · by_cases h1 : k ≤ cnt bs i
    · have h2 : k ≤ cnt bs i + 1 := by omega
      simp [h1, h2]
    · by_cases h2 : k - 1 ≤ cnt bs i
      · have h3 : k ≤ cnt bs i + 1 := by omega
        simp [h1, h2, h3]
      · have h3 : ¬ k ≤ cnt bs i + 1 := by omega
        simp [h1, h2, h3]
section
variable {P : Program} {w : World} {K : PySem.W.Frag} {mg : Str → Option Value} {base : Heap}
def sp_cases_with_least (K : PySem.W.Frag) : Sp := fun vs H Q _ => ∃ (pl : Addr) (least : Int), vs = [.ref pl, .int least, .int 1] ∧ ∃ bs : List Bool, H pl = some (.lst (bs.map fun b => V.int (b2 b))) ∧ bs.length ≤ 24 ∧ 0 ≤ least ∧ least ≤ 25 ∧ ∀ H', Same H H' → Q (.int (b2 (decide (least ≤ ((bs.count true : Nat) : Int))))) H'
theorem c_cases_with_least (T : Txt K mg) : Cal P w K mg base 1 "cases_with_least" (sp_cases_with_least K) [] := by
  have sc := sc_cases_with_least
  refine cal_of T.d_cases_with_least sc (fun _ _ _ _ _ _ us hl => match us, hl with | [_, _, _], _ => rfl) (fun vs H Q E h => ?_) (fun f cdv A outer s H vs Q E hr h => ?_)
  · obtain ⟨pl, least, rfl, _⟩ := h
    rfl
  · obtain ⟨pl, least, rfl, h⟩ := h
    obtain ⟨bs, hl, l24, h0, h25, q⟩ := h
    obtain ⟨n, rfl⟩ : ∃ n : Nat, least = (n : Int) := ⟨least.toNat, by omega⟩
    refine ⟨_, (pss_cons (ps_set (i := 3) sc.nd rfl (Or.inl rfl) (pe_op op_cat (pe_lst (pa_cons (pv 2) pa_nil)) (pe_op op_rep (pe_lst (pa_cons pe_int pa_nil)) (pv 1))))
  (pss_cons (ps_for PassesOwn.never rfl (pi_enum rfl T.m_enumerate (pa_cons (pv 0) pa_nil)) (pg_tup rfl (pgs_cons (pg_name (i := 4) sc.nd rfl (Or.inl rfl)) (pgs_cons (pg_name (i := 5) sc.nd rfl (Or.inl rfl)) pgs_nil))) (pss_cons (ps_set (i := 6) sc.nd rfl (Or.inl rfl) (pe_callB (call_max2 rfl) rfl T.m_max (by decide +kernel) (pa_cons pe_int (pa_cons (pe_op op_add (pe_op op_sub (pv 1) (pe_op op_sub (pe_callB call_len_seq rfl T.m_len (by decide +kernel) (pa_cons (pv 0) pa_nil)) (pv 4))) pe_int) pa_nil))))
  (pss_one (ps_for PassesOwn.never rfl (pi_range3 rfl T.m_range (pa_cons (pe_callB (call_min2 rfl) rfl T.m_min (by decide +kernel) (pa_cons (pe_op op_add (pv 4) pe_int) (pa_cons (pv 1) pa_nil))) (pa_cons (pe_op op_sub (pv 6) pe_int) (pa_cons (pe_un un_neg pe_int) pa_nil)))) (pg_name (i := 7) sc.nd rfl (Or.inl rfl)) (pss_one (ps_asg (pe_op op_or (pe_ix ix_list (pv 3) (pv 7) (fun _ _ => rfl)) (pe_op op_and (pe_ix ix_list (pv 3) (pe_op op_sub (pv 7) pe_int) (fun _ _ => rfl)) (pv 5))) (pg_sub (pv 3) (pv 7) set_list)))))))
  (pss_one (ps_ret (pe_ix ix_list (pv 3) (pv 1) (fun _ _ => rfl)))))), ?_⟩
    refine ⟨_, rfl, (by show 1 ≤ PySem.sizeLine; decide), fun p1 hp1 => ⟨(by show 1 ≤ PySem.sizeLine; decide), fun p2 hp2 => ?_⟩⟩
    have g1 : Same H (upd H p1 (.lst [.int 1])) := same_new hp1
    have g2 := g1.trans (same_new (o := .lst [.int 0]) hp2)
    refine ⟨_, rfl, p2, _, _, rfl, rfl, upd_same, by omega, by omega, ?_, fun p3 hp3 => ?_⟩
    · show 1 * (n : Int).toNat ≤ PySem.sizeLine
      have b : (1000 : Nat) < PySem.sizeLine := by decide
      omega
    have rep : (List.replicate (n : Int).toNat [V.int 0]).flatten = List.replicate n (V.int 0) := by
      rw [Int.toNat_natCast, rep_flat]
    rw [rep]
    have g3 := g2.trans (same_new (o := .lst (List.replicate n (V.int 0))) hp3)
    refine ⟨p1, p3, _, _, rfl, rfl, same_new hp3 _ _ (same_new hp2 _ _ upd_same), upd_same, ?_, fun D hD => ?_⟩
    · rw [List.length_replicate]
      have b : (1000 : Nat) < PySem.sizeLine := by decide
      show 1 + n ≤ _
      omega
    have first : ([V.int 1] ++ List.replicate n (V.int 0)) = ((1 : Int) :: List.replicate n 0).map V.int := by
      rw [List.map_cons, List.map_replicate]
      rfl
    rw [first]
    refine ⟨_, rfl, pl, _, rfl, SqL.of (same_new hD _ _ (g3 _ _ hl)), ?_⟩
    refine for_it (walk_enum (K := K) (a := pl) (xs := bs.map fun b => V.int (b2 b))) (fun i σ H1 => ∃ L v4 v5 v6 v7, σ = [some (.ref pl), some (.int n), some (.int 1), some (.ref D), v4, v5, v6, v7] ∧ H1 D = some (.lst (L.map V.int)) ∧ Same H H1 ∧ CL L n (Good bs n i))
      ⟨_, none, none, none, none, rfl, upd_same, same_mut g3 (g3.free hD), ?_, ?_⟩ (fun i σ H1 _ ⟨_, _, _, _, _, _, _, g, _⟩ => SqL.of (g _ _ hl)) ?_ ?_
    · rw [List.length_cons, List.length_replicate]
    · intro k hk
      refine ⟨fun e => by rw [e]; rfl, fun k1 _ => ?_⟩
      obtain ⟨m, rfl⟩ : ∃ m, k = m + 1 := ⟨k - 1, by omega⟩
      have e : ((1 : Int) :: List.replicate n 0).getD (m + 1) 0 = 0 := by
        rw [List.getD_cons_succ, List.getD_eq_getElem?_getD, List.getElem?_replicate]
        split <;> rfl
      rw [e, decide_eq_false (by have := cnt_le bs 0; omega)]
      rfl
    · rintro i x σ H1 H2 hi ⟨L, v4, v5, v6, v7, rfl, hD1, g, cl⟩ ⟨tp, x1, y1, rfl, hn, rfl, e1, e2⟩
      obtain rfl : x1 = .int (i : Nat) := (Option.some.inj e1).symm
      obtain ⟨b, hb, rfl⟩ := map_at e2
      rw [List.length_map] at hi
      have gT := same_new (o := .tup [.int (i : Nat), .int (b2 b)]) hn
      have hlT := gT _ _ (g _ _ hl)
      refine ⟨tp, [.int (i : Nat), .int (b2 b)], rfl, SqT.of upd_same, rfl, _, _, rfl, _, _, rfl, rfl, ?_⟩
      -- low
      refine ⟨_, rfl, _, rfl, pl, _, rfl, .inl (SqL.of hlT), _, rfl, _, _, rfl, rfl, _, _, rfl, rfl, _, _, rfl, rfl, 1, _, rfl, ?_⟩
      rw [List.length_map]
      obtain ⟨low, elow, low1, lowA, lowB⟩ : ∃ low : Nat, (if (n : Int) - ((bs.length : Int) - ((i : Nat) : Int)) + 1 > 1 then (n : Int) - ((bs.length : Int) - ((i : Nat) : Int)) + 1 else 1) = (low : Int) ∧ 1 ≤ low ∧ n + i + 1 ≤ low + bs.length ∧ (low = 1 ∨ low + bs.length = n + i + 1) := by
        by_cases c : (n : Int) - ((bs.length : Int) - ((i : Nat) : Int)) + 1 > 1
        · exact ⟨n + i + 1 - bs.length, by rw [if_pos c]; omega, by omega, by omega, by omega⟩
        · exact ⟨1, by rw [if_neg c]; rfl, by omega, by omega, by omega⟩
      rw [elow]
      refine ⟨_, rfl, _, _, rfl, rfl, _, rfl, _, _, rfl, _, rfl, _, _, rfl, rfl, 1, rfl, ?_⟩
      obtain ⟨mm, emm, mmA, mmB⟩ : ∃ mm : Nat, (if (n : Int) < ((i : Nat) : Int) + 1 then (n : Int) else ((i : Nat) : Int) + 1) = (mm : Int) ∧ mm ≤ n ∧ (mm = n ∨ mm = i + 1) := by
        by_cases c : (n : Int) < ((i : Nat) : Int) + 1
        · exact ⟨n, by rw [if_pos c], by omega, by omega⟩
        · exact ⟨i + 1, by rw [if_neg c]; rfl, by omega, by omega⟩
      rw [emm]
      refine ⟨_, _, -1, _, rfl, RgC.neg (by omega) (by omega) (by omega) (by omega), ?_⟩
      have hDT := gT _ _ hD1
      refine for_rangeC (lo := (mm : Int)) (c := -1) (n := ((mm : Int) - ((low : Int) - 1)).toNat) (fun j σ H4 => ∃ L' v7, σ = [some (.ref pl), some (.int n), some (.int 1), some (.ref D), some (.int (i : Nat)), some (.int (b2 b)), some (.int low), v7] ∧
        H4 D = some (.lst (L'.map V.int)) ∧ Same H H4 ∧ CL L' n (fun k x => x = if mm < k + j ∧ k ≤ mm then put bs i b k else L.getD k 0)) ⟨L, v7, rfl, hDT, g.trans gT, cl.len, fun k hk => ?_⟩ ?_ ?_
      · rw [if_neg (by omega)]
      · rintro j σ H4 hj ⟨L', w7, rfl, hD4, g4, cl4⟩
        obtain ⟨kk, ekk, kkA, kkB⟩ : ∃ kk : Nat, (mm : Int) + ((j : Nat) : Int) * (-1) = (kk : Int) ∧ low ≤ kk ∧ kk + j = mm := ⟨mm - j, by omega, by omega, by omega⟩
        rw [ekk]
        have c1 := cl4.at_ kk (by omega)
        have c2 := cl4.at_ (kk - 1) (by omega)
        rw [if_neg (by omega)] at c1 c2
        have d1 := (cl.at_ kk (by omega)).2 (by omega) (by omega)
        have d2 : L.getD (kk - 1) 0 = b2 (decide (kk - 1 ≤ cnt bs i)) := by
          rcases Nat.eq_zero_or_pos (kk - 1) with z | z
          · rw [(cl.at_ (kk - 1) (by omega)).1 z, z, decide_eq_true (Nat.zero_le _)]
            rfl
          · exact (cl.at_ (kk - 1) (by omega)).2 z (by omega)
        have e1' : ((kk : Nat) : Int) - 1 = ((kk - 1 : Nat) : Int) := by omega
        have lk : kk < L'.length := by rw [cl4.len]; omega
        refine ⟨_, rfl, _, rfl, D, _, _, _, rfl, rfl, SqL.of hD4, at_getD lk, _, rfl, _, rfl, _, _, rfl, rfl, D, _, _, _, rfl, rfl, SqL.of hD4, by rw [e1']; exact at_getD (by omega), _, rfl, _, _, rfl, rfl, _, _, rfl, rfl, ?_⟩
        refine ⟨_, rfl, _, rfl, D, _, _, kk, rfl, rfl, hD4, ixN_nat (by rw [List.length_map]; exact lk), ?_⟩
        have ev := put_eq (b := b) (k := kk) (by omega) (c1.trans d1) (c2.trans d2)
        refine ⟨L'.set kk (put bs i b kk), _, rfl, ?_, same_mut g4 (g3.free hD), by rw [List.length_set]; exact cl4.len, fun k hk => ?_⟩
        · show upd H4 D (HO.lst ((L'.map V.int).set kk (V.int (PySem.Builtin.bitOr (L'.getD kk 0) (PySem.Builtin.bitAnd (L'.getD (kk - 1) 0) (b2 b)))))) D = _
          rw [ev, upd_same, List.map_set]
        · rw [getD_set lk]
          by_cases z : k = kk
          · subst z
            rw [if_pos rfl, if_pos (by omega)]
          · rw [if_neg z, cl4.at_ k hk]
            by_cases y : mm < k + j ∧ k ≤ mm
            · rw [if_pos y, if_pos (by omega)]
            · rw [if_neg y, if_neg (by omega)]
      · rintro σ H4 ⟨L', w7, rfl, hD4, g4, cl4⟩
        refine ⟨L', _, _, _, _, rfl, hD4, g4, cl4.len, fun k hk => ?_⟩
        have c := cl4.at_ k hk
        refine ⟨fun z => ?_, fun k1 kb => ?_⟩
        · rw [c, if_neg (by omega)]
          exact (cl.at_ k hk).1 z
        · rcases Nat.lt_or_ge mm k with y | y
          · rw [c, if_neg (by omega), (cl.at_ k hk).2 k1 (by omega)]
            congr 1
            have a1 := cnt_le bs i
            have a2 := cnt_le bs (i + 1)
            rw [decide_eq_false (by omega), decide_eq_false (by omega)]
          · rw [c, if_pos (by omega)]
            unfold put
            rw [cnt_succ hb]
    · rintro σ H1 ⟨L, v4, v5, v6, v7, rfl, hD1, g, cl⟩
      rw [List.length_map] at cl
      have gd := cl.at_ n (Nat.le_refl n)
      refine ⟨_, rfl, _, rfl, D, _, _, _, rfl, rfl, SqL.of hD1, at_getD (by rw [cl.len]; omega), ?_⟩
      have e : L.getD n 0 = b2 (decide ((n : Int) ≤ ((bs.count true : Nat) : Int))) := by
        have ec : cnt bs bs.length = bs.count true := by
          unfold cnt
          rw [List.take_length]
        rcases Nat.eq_zero_or_pos n with z | z
        · rw [gd.1 z, decide_eq_true (by omega)]
          rfl
        · rw [gd.2 z (by omega), ec]
          congr 1
          exact decide_eq_decide.mpr (by omega)
      rw [e]
      exact q H1 g
end
end K16
namespace K16
open PySem L2 Nm
open C8 (Cal Mak pe_c pe_mk pe_gc)
open RZ (ItzT pi_zipA)
theorem count_all : ∀ bs : List Bool, decide (bs.length ≤ bs.count true) = bs.all id
  | [] => rfl
  | b :: bs => by
    have ih := count_all bs
    have le := List.count_le_length (a := true) (l := bs)
    cases b
    · simp
      omega
    · rw [List.all_cons, ← ih]
      simp
theorem count_any : ∀ bs : List Bool, decide (1 ≤ bs.count true) = bs.any id
  | [] => rfl
  | b :: bs => by
    have ih := count_any bs
    cases b
    · rw [List.any_cons, ← ih]
      simp
    · simp
theorem kind_val (kd : AKind) (bs : List Bool) : decide (kd.need bs.length ≤ ((bs.count true : Nat) : Int)) = kd.val bs := by
  cases kd with
  | all =>
    show decide ((bs.length : Int) ≤ ((bs.count true : Nat) : Int)) = bs.all id
    rw [← count_all]
    exact decide_eq_decide.mpr (by omega)
  | some =>
    show decide ((1 : Int) ≤ ((bs.count true : Nat) : Int)) = bs.any id
    rw [← count_any]
    exact decide_eq_decide.mpr (by omega)
  | least k => rfl
/-- the cases' list says which boards are won -/
def Told (L : List Int) (many : Int) (wn : Int → Bool) : Prop := ∀ n : Int, 0 ≤ n → n < many → n.toNat < L.length ∧ L.getD n.toNat 0 = b2 (wn n)
section
variable {P : Program} {w : World} {K : PySem.W.Frag} {mg : Str → Option Value} {base : Heap}
def sp_aim_cases (d : Nat) : Sp := fun vs H Q _ => ∃ (v : V) (cs : Addr), vs = [v, .ref cs, .int 1] ∧ ∃ many s φ L wn, AimV H many d v s φ ∧ H cs = some (.lst (List.map V.int L)) ∧ Told L many wn ∧ ∀ H', Same H H' → Q (.int (b2 (φ wn))) H'
theorem c_aim_cases (T : Txt K mg) : ∀ d : Nat, Cal P w K mg base (2 + d) "aim_cases" (sp_aim_cases d) []
  | 0 => cal_void T.d_aim_cases (ps := ["aim", "cases", "whole"]) (fun _ _ _ _ _ _ us hl => match us, hl with | [_, _, _], _ => rfl) fun vs H Q E h => by
    obtain ⟨v, cs, _, many, s, φ, L, wn, hA, _⟩ := h
    exact hA
  | d + 1 => by
    have C_aim_cases := c_aim_cases T d
    have C_is_integer := c_is_integer (P := P) (w := w) (base := base) T
    have C_least_needed := c_least_needed (P := P) (w := w) (base := base) T
    have C_cases_with_least := c_cases_with_least (P := P) (w := w) (base := base) T
    have sc := sc_aim_cases
    refine cal_of (k := 2 + d) T.d_aim_cases sc (fun _ _ _ _ _ _ us hl => match us, hl with | [_, _, _], _ => rfl) (fun vs H Q E h => ?_) (fun f cdv A outer s H vs Q E hr h => ?_)
    · obtain ⟨v, cs, rfl, _⟩ := h
      rfl
    · obtain ⟨v, cs, rfl, many, sz, φ, L, wn, hA, hc, tl, q⟩ := h
      refine ⟨_, (pss_cons (ps_if (pt_val (pe_c C_is_integer hr (by omega) rfl (pa_cons (pv 0) pa_nil))) (pss_one (ps_ret (pe_ix ix_list (pv 1) (pv 0) (fun _ _ => rfl)))) pss_nil)
  (pss_cons (ps_setLc (i := 3) (own := [("part", 4)]) (g := gName 4) rfl sc.nd rfl rfl (sw_true rfl rfl rfl (by decide +kernel)) (pi_tup (pe_ix ix_tup (pv 0) (pe_un un_neg pe_int) (fun _ _ => rfl))) (blkOk_by (own := [("part", 4)]) (N := ["aim", "cases", "whole", "parts", "part"]) (sc := defScope s_aim_cases) (by decide +kernel)) (fun _ _ _ _ _ => (pg_name (i := 4) sc.nd rfl (Or.inl rfl))) (fun _ _ _ _ _ => pts_nil) (fun _ _ _ _ _ => (pe_c C_aim_cases hr (by omega) rfl (pa_cons (pv 4) (pa_cons (pv 1) (pa_cons (pv 2) pa_nil))))))
  (pss_one (ps_ret (pe_c C_cases_with_least hr (by omega) rfl (pa_cons (pv 3) (pa_cons (pe_c C_least_needed hr (by omega) rfl (pa_cons (pv 0) pa_nil)) (pa_cons (pv 2) pa_nil)))))))), ?_⟩
      rcases hA with ⟨n, rfl, n0, nm, rfl, rfl⟩ | ⟨a, p, xs, kd, ys, rfl, ha, hp, ok, l24, pr, es, rfl⟩
      · obtain ⟨t1, t2⟩ := tl n n0 nm
        refine ⟨_, rfl, _, rfl, tyi_int n, true, rfl, ?_⟩
        refine iteT ⟨_, rfl, _, rfl, cs, _, n, V.int (L.getD n.toNat 0), rfl, rfl, SqL.of hc, ?_, ?_⟩
        · have e : n = ((n.toNat : Nat) : Int) := by omega
          rw [e, Int.toNat_natCast]
          exact at_getD t1
        · rw [t2]
          exact q H (Same.refl H)
      · have el : xs.length = ys.length := paired_len pr
        refine ⟨_, rfl, _, rfl, tyi_tup ha, false, rfl, ?_⟩
        have last : atI (kd.head ++ [V.ref p]) (-1) = some (V.ref p) := by cases kd <;> rfl
        refine iteF ⟨_, rfl, 1, rfl, a, _, -1, .ref p, rfl, rfl, SqT.of ha, last, p, rfl, ⟨_, SqT.of hp⟩, fun D hD => ?_⟩
        refine lc_tup (K := K) (a := p) (xs := xs) (fun i H1 => H1 D = some (.lst ((ys.take i).map fun y => V.int (b2 (y.2 wn)))) ∧ Same H H1) ⟨upd_same, same_new hD⟩ (fun i H1 _ z => SqT.of (z.2 _ _ hp)) ?_ ?_
        · rintro i x H1 hx ⟨h1, g⟩
          obtain ⟨y, hy, hA⟩ := paired_at pr i x hx
          refine ⟨rfl, ?_⟩
          refine ⟨_, rfl, _, rfl, _, rfl, x, cs, rfl, many, y.1, y.2, L, wn, hA.mono (same_tups g), g _ _ hc, tl, fun H2 g2 => ⟨_, g2 _ _ h1, ?_, ?_, same_mut (g.trans g2) hD⟩⟩
          · rw [List.length_map, List.length_take]
            have b : (1000 : Nat) < PySem.sizeLine := by decide
            omega
          · rw [upd_same, take_one hy, List.map_append]
            rfl
        · rintro H1 ⟨h1, g⟩
          rw [el, List.take_length] at h1
          refine ⟨_, rfl, _, rfl, a, rfl, p, xs, kd, g _ _ ha, g _ _ hp, _, rfl, D, _, rfl, ys.map (fun y => y.2 wn), by rw [h1, List.map_map]; rfl, by rw [List.length_map]; omega, ?_, ?_, fun H2 g2 => ?_⟩
          · cases kd with
            | all => exact Int.natCast_nonneg _
            | some => show (0 : Int) ≤ 1; decide
            | least k => exact ok.1
          · cases kd with
            | all => show ((xs.length : Nat) : Int) ≤ 25; omega
            | some => show (1 : Int) ≤ 25; decide
            | least k => exact ok.2
          · have e := kind_val kd (ys.map (fun y => y.2 wn))
            rw [List.length_map, ← el] at e
            rw [e]
            exact q H2 (g.trans g2)
end
end K16
namespace K16
open PySem L2 Nm
open C8 (Cal Mak pe_c pe_mk pe_gc)
open RZ (ItzT pi_zipA)
theorem rep_zero : ∀ n : Nat, (List.replicate n [V.int 0]).flatten = List.replicate n (V.int 0)
  | 0 => rfl
  | n + 1 => by
    rw [List.replicate_succ, List.flatten_cons, rep_zero n]
    rfl
section
variable {P : Program} {w : World} {K : PySem.W.Frag} {mg : Str → Option Value} {base : Heap}
def sp_is_reached (K : PySem.W.Frag) : Sp := fun vs H Q _ => ∃ (v : V) (lp : Addr) (many : Int), vs = [v, .ref lp, .int many] ∧ ∃ d s φ ns, AimV H many d v s φ ∧ d ≤ 8 ∧ 1 ≤ many ∧ many ≤ 1000 ∧ H lp = some (.tup (List.map V.int ns)) ∧ (∀ n ∈ ns, 0 ≤ n ∧ n < many) ∧
  ∀ H', Same H H' → Q (.bl (φ fun n => decide (n ∈ ns))) H'
theorem c_is_reached (T : Txt K mg) : Cal P w K mg base 11 "is_reached" (sp_is_reached K) [] := by
  have sc := sc_is_reached
  refine cal_of T.d_is_reached sc (fun _ _ _ _ _ _ us hl => match us, hl with | [_, _, _], _ => rfl) (fun vs H Q E h => ?_) (fun f cdv A outer s H vs Q E hr h => ?_)
  · obtain ⟨v, lp, many, rfl, _⟩ := h
    rfl
  · obtain ⟨v, lp, many, rfl, h⟩ := h
    obtain ⟨d, sz, φ, ns, hA, d8, m1, m2, hl, hn, q⟩ := h
    obtain ⟨m, rfl⟩ : ∃ m : Nat, many = (m : Int) := ⟨many.toNat, by omega⟩
    have C_aim_cases := c_aim_cases (P := P) (w := w) (base := base) T 8
    refine ⟨_, (pss_cons (ps_set (i := 3) sc.nd rfl (Or.inl rfl) (pe_op op_rep (pe_lst (pa_cons pe_int pa_nil)) (pv 2)))
  (pss_cons (ps_for PassesOwn.never rfl (pi_tup (pv 1)) (pg_name (i := 4) sc.nd rfl (Or.inl rfl)) (pss_one (ps_asg pe_int (pg_sub (pv 3) (pv 4) set_list))))
  (pss_one (ps_ret (pe_cmpR op_eq (pe_c C_aim_cases hr (by omega) rfl (pa_cons (pv 0) (pa_cons (pv 3) (pa_cons pe_int pa_nil)))) pe_int (nomark _)))))), ?_⟩
    refine ⟨(by show 1 ≤ PySem.sizeLine; decide), fun p1 hp1 => ⟨_, rfl, p1, _, _, rfl, rfl, upd_same, by omega, by omega, ?_, fun D hD => ?_⟩⟩
    · show 1 * (m : Int).toNat ≤ PySem.sizeLine
      have b : (1000 : Nat) < PySem.sizeLine := by decide
      omega
    rw [Int.toNat_natCast, rep_zero]
    have g1 : Same H (upd H p1 (.lst [.int 0])) := same_new hp1
    have g2 := g1.trans (same_new (o := .lst (List.replicate m (V.int 0))) hD)
    have hDn : H D = none := g1.free hD
    refine ⟨_, rfl, lp, rfl, ⟨_, SqT.of (g2 _ _ hl)⟩, ?_⟩
    refine for_tup (K := K) (a := lp) (xs := ns.map V.int) (fun i σ H1 => ∃ L v4, σ = [some v, some (.ref lp), some (.int m), some (.ref D), v4] ∧ H1 D = some (.lst (List.map V.int L)) ∧ L.length = m ∧ (∀ k, k < m → L.getD k 0 = b2 (decide ((k : Int) ∈ ns.take i))) ∧ Same H H1)
      ⟨List.replicate m 0, none, rfl, ?_, by rw [List.length_replicate], ?_, g2⟩ (fun i σ H1 _ ⟨_, _, _, _, _, _, g⟩ => SqT.of (g _ _ hl)) ?_ ?_
    · rw [upd_same, List.map_replicate]
    · intro k hk
      rw [List.getD_eq_getElem?_getD, List.getElem?_replicate, if_pos hk]
      rfl
    · rintro i x σ H1 hx ⟨L, v4, rfl, h1, ll, hk, g⟩
      obtain ⟨n, hn1, rfl⟩ := map_at hx
      obtain ⟨n0, nm⟩ := hn n (List.mem_of_getElem? hn1)
      obtain ⟨k, rfl⟩ : ∃ k : Nat, n = (k : Int) := ⟨n.toNat, by omega⟩
      refine ⟨_, rfl, _, rfl, D, _, _, k, rfl, rfl, h1, ixN_nat (by rw [List.length_map]; omega), ?_⟩
      refine ⟨L.set k 1, _, rfl, ?_, by rw [List.length_set]; exact ll, fun j hj => ?_, same_mut g hDn⟩
      · rw [upd_same, List.map_set]
      · rw [getD_set (by omega), take_one hn1]
        by_cases z : j = k
        · subst z
          rw [if_pos rfl, decide_eq_true (by simp)]
          rfl
        · rw [if_neg z, hk j hj]
          congr 1
          refine decide_eq_decide.mpr ?_
          rw [List.mem_append, List.mem_singleton]
          exact ⟨.inl, fun h => h.elim id fun e => absurd (by omega) z⟩
    · rintro σ H1 ⟨L, v4, rfl, h1, ll, hk, g⟩
      rw [List.length_map, List.take_length] at hk
      refine ⟨_, rfl, _, rfl, v, D, rfl, m, sz, φ, L, (fun n => decide (n ∈ ns)), (hA.mono (same_tups g)).deeper d8, h1, fun n n0 nm => ⟨by omega, ?_⟩, fun H2 g2 => ?_⟩
      · have e := hk n.toNat (by omega)
        rw [show ((n.toNat : Nat) : Int) = n by omega] at e
        exact e
      · refine ⟨rfl, ?_⟩
        have e : decide (V.int (b2 (φ fun n => decide (n ∈ ns))) = V.int 1) = φ fun n => decide (n ∈ ns) := by
          cases (φ fun n => decide (n ∈ ns))
          · exact int_ne (by decide)
          · exact int_eq rfl
        show Q (V.bl (decide (V.int (b2 (φ fun n => decide (n ∈ ns))) = V.int 1))) H2
        rw [e]
        exact q H2 (g.trans g2)
end
end K16
namespace K16
open PySem L2 Nm
open C8 (Cal Mak pe_c pe_mk pe_gc)
open RZ (ItzT pi_zipA)
section
variable {P : Program} {w : World} {K : PySem.W.Frag} {mg : Str → Option Value} {base : Heap}
def sp_reached (K : PySem.W.Frag) : Sp := fun vs H Q _ => ∃ (h0 : Addr) (v : V) (lp : Addr), vs = [.ref h0, v, .ref lp] ∧ ∃ bs d s φ ns, HallAt K H h0 bs ∧ AimV H bs.length d v s φ ∧ d ≤ 8 ∧ s ≤ 200 ∧ 1 ≤ bs.length ∧ bs.length ≤ 1000 ∧
  H lp = some (.tup (List.map V.int ns)) ∧ (∀ n ∈ ns, 0 ≤ n ∧ n < (bs.length : Int)) ∧ ns.Pairwise (· < ·) ∧ ns.length ≤ 1000 ∧ ∀ H', Same H H' → Q (.bl (φ fun n => decide (n ∈ ns))) H'
theorem c_reached (T : Txt K mg) : Cal P w K mg base 15 "reached" (sp_reached K) [] := by
  have C_check_aim := c_check_aim (P := P) (w := w) (base := base) T
  have C_is_lot := c_is_lot (P := P) (w := w) (base := base) T
  have C_is_reached := c_is_reached (P := P) (w := w) (base := base) T
  have sc := sc_reached
  refine cal_of T.d_reached sc (fun _ _ _ _ _ _ us hl => match us, hl with | [_, _, _], _ => rfl) (fun vs H Q E h => ?_) (fun f cdv A outer s H vs Q E hr h => ?_)
  · obtain ⟨h0, v, lp, rfl, _⟩ := h
    rfl
  · obtain ⟨h0, v, lp, rfl, h⟩ := h
    obtain ⟨bs, d, sz, φ, ns, hH, hA, d8, h200, l1, l2', hl, hn, up, ln, q⟩ := h
    refine ⟨_, (pss_cons (ps_expr (pe_c C_check_aim hr (by omega) rfl (pa_cons (pv 0) (pa_cons (pv 1) pa_nil))))
  (pss_cons (ps_set (i := 3) sc.nd rfl (Or.inl rfl) (pe_callB call_len_seq rfl T.m_len (by decide +kernel) (pa_cons (pe_fld (pv 0) rfl) pa_nil)))
  (pss_cons (ps_if (pt_not (pt_val (pe_c C_is_lot hr (by omega) rfl (pa_cons (pv 2) (pa_cons (pv 3) pa_nil))))) (pss_one ps_never) pss_nil)
  (pss_one (ps_ret (pe_c C_is_reached hr (by omega) rfl (pa_cons (pv 1) (pa_cons (pv 2) (pa_cons (pv 3) pa_nil))))))))), ?_⟩
    refine ⟨_, rfl, _, rfl, h0, v, rfl, bs, d, sz, φ, hH, hA, d8, h200, l1, by omega, fun H1 g1 => ?_⟩
    obtain ⟨C, dx, fs, a, n, ys, cl, nB, nN, hp, fb, fn, ⟨xs, hb, pr⟩, hn', nm⟩ := hH.mono (same_keep g1)
    have el : xs.length = bs.length := paired_len pr
    refine ⟨_, rfl, h0, C, dx, fs, _, rfl, hp, cl, nB, fb, a, _, rfl, .inr (SqT.of hb), ?_⟩
    rw [el]
    have ok : (ns.all (fun n => within (.int n) 0 ((bs.length : Int) - 1)) && ascB ns) = true := by
      rw [ascB_of up, Bool.and_true, List.all_eq_true]
      intro n hn1
      obtain ⟨z1, z2⟩ := hn n hn1
      show (decide (0 ≤ n) && decide (n ≤ (bs.length : Int) - 1)) = true
      rw [decide_eq_true z1, decide_eq_true (by omega)]
      rfl
    refine ⟨_, rfl, _, rfl, lp, ns, bs.length, rfl, g1 _ _ hl, ln, fun H2 g2 => ⟨_, rfl, ?_⟩⟩
    rw [ok]
    refine iteF ⟨_, rfl, _, rfl, _, rfl, v, lp, bs.length, rfl, d, sz, φ, ns, hA.mono (same_tups (g1.trans g2)), d8, by omega, by omega, (g1.trans g2) _ _ hl, hn, fun H3 g3 => ?_⟩
    exact q H3 ((g1.trans g2).trans g3)
end
end K16
namespace K16
open PySem L2 Nm
open C8 (Cal Mak pe_c pe_mk pe_gc)
open RZ (ItzT pi_zipA)
section
variable {P : Program} {w : World} {K : PySem.W.Frag} {mg : Str → Option Value} {base : Heap}
def sp__law_tape (K : PySem.W.Frag) : Sp := fun vs H Q _ => ∃ (a : Addr), vs = [.ref a] ∧ ∃ ns : List Int, SqL K H a (ns.map V.int) ∧ ∀ tp l H', Same H H' → H tp = none → TapeAt H' tp l → Q (.ref tp) H'
theorem c__law_tape (T : Txt K mg) : Cal P w K mg base 1 "_law_tape" (sp__law_tape K) [] := by
  have sc := sc__law_tape
  refine cal_of T.d__law_tape sc (fun _ _ _ _ _ _ us hl => match us, hl with | [_], _ => rfl) (fun vs H Q E h => ?_) (fun f cdv A outer s H vs Q E hr h => ?_)
  · obtain ⟨a, rfl, _⟩ := h
    rfl
  · obtain ⟨a, rfl, h⟩ := h
    refine ⟨_, (pss_one (ps_ret (pe_lst (pa_cons (pe_callTy call_list_of rfl T.m_list (by decide +kernel) (pa_cons (pv 0) pa_nil)) (pa_cons pe_int (pa_cons pe_int (pa_cons pe_int (pa_cons pe_int pa_nil)))))))), ?_⟩
    obtain ⟨ns, hs, q⟩ := h
    refine ⟨_, rfl, a, _, rfl, .inl hs, fun l hl => ⟨(by show 5 ≤ PySem.sizeLine; decide), fun tp ht => ?_⟩⟩
    have g1 : Same H (upd H l (.lst (ns.map V.int))) := same_new hl
    exact q tp l _ (g1.trans (same_new ht)) (g1.free ht) ⟨ns, 0, 0, 1, 0, upd_same, same_new ht _ _ upd_same, Int.le_refl 0⟩
end
end K16
namespace K16
open PySem L2 Nm
open C8 (Cal Mak pe_c pe_mk pe_gc)
open RZ (ItzT pi_zipA)
section
variable {P : Program} {w : World} {K : PySem.W.Frag} {mg : Str → Option Value} {base : Heap}
def sp__law_pick (K : PySem.W.Frag) : Sp := fun vs H Q _ => ∃ (tp : Addr) (size : Int), vs = [.ref tp, .int size] ∧ ∃ l, TapeAt H tp l ∧ 1 ≤ size ∧ size ≤ 1000 ∧ ∀ r H', 0 ≤ r → r < size → TapeAt H' tp l → Mov tp H H' → Q (.int r) H'
theorem c__law_pick (T : Txt K mg) : Cal P w K mg base 1 "_law_pick" (sp__law_pick K) [] := by
  have sc := sc__law_pick
  refine cal_of T.d__law_pick sc (fun _ _ _ _ _ _ us hl => match us, hl with | [_, _], _ => rfl) (fun vs H Q E h => ?_) (fun f cdv A outer s H vs Q E hr h => ?_)
  · obtain ⟨tp, size, rfl, _⟩ := h
    rfl
  · obtain ⟨tp, size, rfl, h⟩ := h
    refine ⟨_, (pss_cons (ps_if (pt_cmpR op_gt (pe_ix ix_list (pv 0) pe_int (fun _ _ => rfl)) pe_int (nomark _)) (pss_cons (ps_set (i := 2) sc.nd rfl (Or.inl rfl) (pe_op op_mod (pe_callTy call_int1 rfl T.m_int (by decide +kernel) (pa_cons (pe_ix ix_list (pv 0) pe_int (fun _ _ => rfl)) pa_nil)) (pv 1)))
  (pss_cons (ps_asg (pe_op op_fdiv (pe_ix ix_list (pv 0) pe_int (fun _ _ => rfl)) (pv 1)) (pg_sub (pv 0) pe_int set_list))
  (pss_one (ps_ret (pv 2))))) pss_nil)
  (pss_cons (ps_asg (pe_op op_add (pe_ix ix_list (pv 0) pe_int (fun _ _ => rfl)) pe_int) (pg_sub (pv 0) pe_int set_list))
  (pss_cons (ps_set (i := 3) sc.nd rfl (Or.inl rfl) pe_int)
  (C8.pss_cut (ps_if (pt_cmpR op_lt (pe_ix ix_list (pv 0) pe_int (fun _ _ => rfl)) (pe_callB call_len_seq rfl T.m_len (by decide +kernel) (pa_cons (pe_ix ix_list (pv 0) pe_int (fun _ _ => rfl)) pa_nil)) (nomark _)) (pss_cons (ps_set (i := 3) sc.nd rfl (Or.inl rfl) (pe_ix ix_list (pe_ix ix_list (pv 0) pe_int (fun _ _ => rfl)) (pe_ix ix_list (pv 0) pe_int (fun _ _ => rfl)) (fun _ _ => rfl)))
  (pss_one (ps_asg (pe_op op_add (pe_ix ix_list (pv 0) pe_int (fun _ _ => rfl)) pe_int) (pg_sub (pv 0) pe_int set_list)))) pss_nil)
  (pss_cons (ps_if (pt_cmpR op_ge (pv 3) (pe_op op_pow pe_int pe_int) (nomark _)) (pss_cons (ps_asg (pe_op op_fdiv (pv 3) (pv 1)) (pg_sub (pv 0) pe_int set_list))
  (pss_one (ps_ret (pe_op op_mod (pe_callTy call_int1 rfl T.m_int (by decide +kernel) (pa_cons (pv 3) pa_nil)) (pv 1))))) pss_nil)
  (pss_cons (ps_set (i := 4) sc.nd rfl (Or.inl rfl) (pe_op op_mod (pe_callTy call_int1 rfl T.m_int (by decide +kernel) (pa_cons (pe_op op_add (pe_op op_add (pe_op op_mul (pe_ix ix_list (pv 0) pe_int (fun _ _ => rfl)) pe_int) (pe_op op_mod (pe_callTy call_int1 rfl T.m_int (by decide +kernel) (pa_cons (pv 3) pa_nil)) pe_int)) (pe_op op_mul (pe_ix ix_list (pv 0) pe_int (fun _ _ => rfl)) pe_int)) pa_nil)) pe_int))
  (pss_cons (ps_set (i := 4) sc.nd rfl (Or.inl rfl) (pe_op op_mod (pe_callTy call_int1 rfl T.m_int (by decide +kernel) (pa_cons (pe_op op_mul (pv 4) (pe_op op_add (pe_op op_fdiv (pv 4) pe_int) pe_int)) pa_nil)) pe_int))
  (pss_cons (ps_asg (pv 4) (pg_sub (pv 0) pe_int set_list))
  (pss_one (ps_ret (pe_op op_mod (pe_callTy call_int1 rfl T.m_int (by decide +kernel) (pa_cons (pe_op op_fdiv (pv 4) pe_int) pa_nil)) (pv 1)))))))))))), ?_⟩
    obtain ⟨l, ⟨ns, i, c, m, n, ht, hl, h0⟩, s1, s2, q⟩ := h
    have nl : l ≠ tp := tape_ne ht hl
    have pos : (0 : Int) < size := by omega
    refine ⟨_, rfl, tp, _, 2, .int c, rfl, rfl, SqL.of ht, rfl, _, _, rfl, rfl, _, rfl, ?_⟩
    refine ite2 (fun _ => ?_) (fun _ => ?_)
    · refine ⟨_, rfl, tp, _, 2, .int c, rfl, rfl, SqL.of ht, rfl, .inl ⟨c, rfl, _, rfl, c, size, rfl, rfl, pos, ?_⟩⟩
      refine ⟨_, rfl, tp, _, 2, .int c, rfl, rfl, SqL.of ht, rfl, _, rfl, c, size, rfl, rfl, ⟨pos, by omega⟩, ?_⟩
      refine ⟨_, rfl, tp, _, 2, 2, rfl, rfl, ht, rfl, _, rfl, ?_⟩
      exact q _ _ (Int.emod_nonneg _ (by omega)) (Int.emod_lt_of_pos _ pos) ⟨ns, i, c / size, m, n, upd_same, by rw [upd_ne nl]; exact hl, h0⟩ mov_upd
    · refine ⟨_, rfl, tp, _, 4, .int n, rfl, rfl, SqL.of ht, rfl, n, 1, rfl, rfl, _, rfl, tp, _, 4, 4, rfl, rfl, ht, rfl, ?_⟩
      have ht1 : upd H tp (.lst [.ref l, .int i, .int c, .int m, .int (n + 1)]) tp = some (.lst [.ref l, .int i, .int c, .int m, .int (n + 1)]) := upd_same
      have hl1 : upd H tp (.lst [.ref l, .int i, .int c, .int m, .int (n + 1)]) l = some (.lst (ns.map V.int)) := by
        rw [upd_ne nl]
        exact hl
      refine ⟨fun σ H1 => ∃ cell j, σ = [some (.ref tp), some (.int size), none, some (.int cell), none] ∧ 0 ≤ j ∧ H1 tp = some (.lst [.ref l, .int j, .int c, .int m, .int (n + 1)]) ∧ H1 l = some (.lst (ns.map V.int)) ∧ Mov tp H H1, ?_, ?_⟩
      · refine ⟨_, rfl, tp, _, 1, .int i, rfl, rfl, SqL.of ht1, rfl, _, rfl, tp, _, 0, .ref l, rfl, rfl, SqL.of ht1, rfl, l, _, rfl, .inl (SqL.of hl1), _, _, rfl, rfl, _, rfl, ?_⟩
        rw [List.length_map]
        refine ite2 (fun z => ?_) (fun _ => ?_)
        · have z' : i < (ns.length : Int) := of_decide_eq_true z
          have at1 : atI (ns.map V.int) i = some (V.int (ns.getD i.toNat 0)) := by
            have e : i = ((i.toNat : Nat) : Int) := by omega
            rw [e, Int.toNat_natCast]
            exact at_getD (by omega)
          refine ⟨_, rfl, tp, _, 0, .ref l, rfl, rfl, SqL.of ht1, rfl, _, rfl, tp, _, 1, .int i, rfl, rfl, SqL.of ht1, rfl, l, _, i, _, rfl, rfl, SqL.of hl1, at1, ?_⟩
          refine ⟨_, rfl, tp, _, 1, .int i, rfl, rfl, SqL.of ht1, rfl, i, 1, rfl, rfl, _, rfl, tp, _, 1, 1, rfl, rfl, ht1, rfl, ?_⟩
          exact ⟨_, i + 1, rfl, by omega, upd_same, by rw [upd_ne nl]; exact hl1, mov_upd.trans mov_upd⟩
        · exact ⟨0, i, rfl, h0, ht1, hl1, mov_upd⟩
      · rintro σ H1 ⟨cell, j, rfl, j0, ht2, hl2, mv⟩
        refine ⟨_, rfl, _, _, rfl, rfl, ⟨by decide, by decide, by decide⟩, _, _, rfl, rfl, _, rfl, ?_⟩
        refine ite2 (fun _ => ?_) (fun _ => ?_)
        · refine ⟨_, rfl, _, rfl, cell, size, rfl, rfl, ⟨pos, by omega⟩, _, rfl, tp, _, 2, 2, rfl, rfl, ht2, rfl, ?_⟩
          refine ⟨_, rfl, .inl ⟨cell, rfl, _, rfl, cell, size, rfl, rfl, pos, ?_⟩⟩
          exact q _ _ (Int.emod_nonneg _ (by omega)) (Int.emod_lt_of_pos _ pos) ⟨ns, j, cell / size, m, n + 1, upd_same, by rw [upd_ne nl]; exact hl2, j0⟩ (mv.trans mov_upd)
        · refine ⟨_, rfl, tp, _, 3, .int m, rfl, rfl, SqL.of ht2, rfl, _, _, rfl, rfl, .inr ⟨by decide, by decide⟩, _, rfl, .inl ⟨cell, rfl, cell, _, rfl, rfl, (by show (0 : Int) < _; decide), ?_⟩⟩
          refine ⟨_, _, rfl, rfl, _, rfl, tp, _, 4, .int (n + 1), rfl, rfl, SqL.of ht2, rfl, _, _, rfl, rfl, .inr ⟨by decide, by decide⟩, ?_⟩
          refine ⟨_, _, rfl, rfl, .inl ⟨_, rfl, _, _, rfl, rfl, (by show (0 : Int) < _; decide), ?_⟩⟩
          have x0 : 0 ≤ (m * 48271 + cell % 2147483629 + (n + 1) * 69621) % 2147483647 := Int.emod_nonneg _ (by decide)
          have x1 : (m * 48271 + cell % 2147483629 + (n + 1) * 69621) % 2147483647 < 2147483647 := Int.emod_lt_of_pos _ (by decide)
          refine ⟨_, rfl, _, rfl, _, _, rfl, rfl, ⟨by decide, by decide⟩, _, _, rfl, rfl, _, _, rfl, rfl, .inl ⟨by omega, by omega⟩, .inl ⟨_, rfl, _, _, rfl, rfl, (by show (0 : Int) < _; decide), ?_⟩⟩
          refine ⟨_, rfl, _, rfl, tp, _, 3, 3, rfl, rfl, ht2, rfl, ?_⟩
          refine ⟨_, rfl, _, _, rfl, rfl, ⟨by decide, by decide⟩, .inl ⟨_, rfl, _, rfl, _, size, rfl, rfl, pos, ?_⟩⟩
          exact q _ _ (Int.emod_nonneg _ (by omega)) (Int.emod_lt_of_pos _ pos) ⟨ns, j, c, _, n + 1, upd_same, by rw [upd_ne nl]; exact hl2, j0⟩ (mv.trans mov_upd)
end
end K16
namespace K16
open PySem L2 Nm
open C8 (Cal Mak pe_c pe_mk pe_gc)
open RZ (ItzT pi_zipA)
section
variable {P : Program} {w : World} {K : PySem.W.Frag} {mg : Str → Option Value} {base : Heap}
def sp__law_flag (K : PySem.W.Frag) : Sp := fun vs H Q _ => ∃ (b c : Bool), vs = [.bl b, .bl c] ∧ Q (.bl (decide (b = c))) H
theorem c__law_flag (T : Txt K mg) : Cal P w K mg base 1 "_law_flag" (sp__law_flag K) [] := by
  have sc := sc__law_flag
  refine cal_of T.d__law_flag sc (fun _ _ _ _ _ _ us hl => match us, hl with | [_, _], _ => rfl) (fun vs H Q E h => ?_) (fun f cdv A outer s H vs Q E hr h => ?_)
  · obtain ⟨b, c, rfl, _⟩ := h
    rfl
  · obtain ⟨b, c, rfl, h⟩ := h
    refine ⟨_, (pss_one (ps_ret (pe_and (pe_callB call_isi rfl T.m_isinstance (by decide +kernel) (pa_cons (pv 0) (pa_cons (pe_bltn (v := .ty "bool") (u := .type "bool") rfl T.m_bool (by decide +kernel) rfl) pa_nil))) (pe_one (pe_cmpR op_eq (pv 0) (pv 1) (nomark _)))))), ?_⟩
    obtain ⟨t, t1, t2⟩ := tyc_bl (K := K) (H := H) b
    refine ⟨_, rfl, _, _, t, _, true, rfl, .ty _, t1, t2, true, rfl, ?_⟩
    refine iteT ⟨_, rfl, _, rfl, rfl, ?_⟩
    have e : decide (V.bl b = V.bl c) = decide (b = c) := by cases b <;> cases c <;> rfl
    show Q (V.bl (decide (V.bl b = V.bl c))) H
    rw [e]
    exact h
end
end K16
namespace K16
open PySem L2 Nm
open C8 (Cal Mak pe_c pe_mk pe_gc)
open RZ (ItzT pi_zipA)
/-- the number of aims in a drawn one -/
def bnd : Nat → Nat
  | 0 => 0
  | d + 1 => 1 + 3 * bnd d
theorem bnd_pos (d : Nat) : 1 ≤ bnd (d + 1) := by
  unfold bnd
  omega
theorem menu {r : Int} (h0 : 0 ≤ r) (h7 : r < 7) : ∃ j : Int, atI [V.int 2, V.int 2, V.int 3, V.int 2, V.int 1, V.int 3, V.int 0] r = some (V.int j) ∧ 0 ≤ j ∧ j ≤ 3 := by
  have c : r = 0 ∨ r = 1 ∨ r = 2 ∨ r = 3 ∨ r = 4 ∨ r = 5 ∨ r = 6 := by omega
  rcases c with rfl | rfl | rfl | rfl | rfl | rfl | rfl
  · exact ⟨2, rfl, by decide, by decide⟩
  · exact ⟨2, rfl, by decide, by decide⟩
  · exact ⟨3, rfl, by decide, by decide⟩
  · exact ⟨2, rfl, by decide, by decide⟩
  · exact ⟨1, rfl, by decide, by decide⟩
  · exact ⟨3, rfl, by decide, by decide⟩
  · exact ⟨0, rfl, by decide, by decide⟩
section
variable {P : Program} {w : World} {K : PySem.W.Frag} {mg : Str → Option Value} {base : Heap}
def sp__law_aim (d : Nat) : Sp := fun vs H Q _ => ∃ (tp : Addr) (many deep : Int), vs = [.ref tp, .int many, .int deep] ∧ ∃ l, deep = (d : Int) ∧ 1 ≤ d ∧ TapeAt H tp l ∧ 1 ≤ many ∧ many ≤ 100 ∧
  ∀ v s φ H', AimV H' many d v s φ → s ≤ bnd d → TapeAt H' tp l → Mov tp H H' → Q v H'
theorem c__law_aim (T : Txt K mg) : ∀ d : Nat, Cal P w K mg base (1 + d) "_law_aim" (sp__law_aim d) []
  | 0 => cal_void T.d__law_aim (ps := ["tape", "many", "deep"]) (fun _ _ _ _ _ _ us hl => match us, hl with | [_, _, _], _ => rfl) fun vs H Q E h => by
    obtain ⟨tp, many, deep, _, l, _, h1, _⟩ := h
    exact absurd h1 (by decide)
  | d + 1 => by
    have C__law_aim := c__law_aim T d
    have C__law_pick := c__law_pick (P := P) (w := w) (base := base) T
    have sc := sc__law_aim
    refine cal_of (k := 1 + d) T.d__law_aim sc (fun _ _ _ _ _ _ us hl => match us, hl with | [_, _, _], _ => rfl) (fun vs H Q E h => ?_) (fun f cdv A outer s H vs Q E hr h => ?_)
    · obtain ⟨tp, many, deep, rfl, _⟩ := h
      rfl
    · obtain ⟨tp, many, deep, rfl, l, rfl, _, t0, m1, m2, q⟩ := h
      -- a drawn number
      have num : ∀ (r : Int) (H1 : Hp), 0 ≤ r → r < many → AimV H1 many (d + 1) (.int r) 1 (fun wn => wn r) := fun r H1 h0 h1 => .inl ⟨r, rfl, h0, h1, rfl, rfl⟩
      refine ⟨_, (pss_cons (ps_if (PW.pt (pw_or (pt_cmpR op_lt (pv 2) pe_int (nomark _)) (pw_or1 (pt_cmpR op_eq (pe_c C__law_pick hr (by omega) rfl (pa_cons (pv 0) (pa_cons pe_int pa_nil))) pe_int (nomark _))))) (pss_one (ps_ret (pe_c C__law_pick hr (by omega) rfl (pa_cons (pv 0) (pa_cons (pv 1) pa_nil))))) pss_nil)
  (pss_cons (ps_set (i := 3) sc.nd rfl (Or.inl rfl) (pe_callTy call_tuple_of rfl T.m_tuple (by decide +kernel) (pa_cons (pe_lc (own := [("k", 4)]) (g := gName 4) rfl sc.nd (pi_range1 rfl T.m_range (pa_cons (pe_ix ix_list (pe_lst (pa_cons pe_int (pa_cons pe_int (pa_cons pe_int (pa_cons pe_int (pa_cons pe_int (pa_cons pe_int (pa_cons pe_int pa_nil)))))))) (pe_c C__law_pick hr (by omega) rfl (pa_cons (pv 0) (pa_cons pe_int pa_nil))) (fun _ _ => rfl)) pa_nil)) (blkOk_by (own := [("k", 4)]) (N := ["tape", "many", "deep", "inner", "k"]) (sc := defScope s__law_aim) (by decide +kernel)) (fun _ _ _ _ _ => (pg_name (i := 4) sc.nd rfl (Or.inl rfl))) (fun _ _ _ _ _ => pts_nil) (fun _ _ _ _ _ => (pe_c C__law_aim hr (by omega) rfl (pa_cons (pv 0) (pa_cons (pv 1) (pa_cons (pe_op op_sub (pv 2) pe_int) pa_nil)))))) pa_nil)))
  (pss_cons (ps_if (pt_cmpR op_eq (pe_c C__law_pick hr (by omega) rfl (pa_cons (pv 0) (pa_cons pe_int pa_nil))) pe_int (nomark _)) (pss_one (ps_ret (pe_tup (pa_cons pe_str (pa_cons (pe_c C__law_pick hr (by omega) rfl (pa_cons (pv 0) (pa_cons (pe_op op_add (pe_callB call_len_seq rfl T.m_len (by decide +kernel) (pa_cons (pv 3) pa_nil)) pe_int) pa_nil))) (pa_cons (pv 3) pa_nil)))))) pss_nil)
  (pss_one (ps_ret (pe_tup (pa_cons (pe_ix ix_list (pe_lst (pa_cons pe_str (pa_cons pe_str pa_nil))) (pe_c C__law_pick hr (by omega) rfl (pa_cons (pv 0) (pa_cons pe_int pa_nil))) (fun _ _ => rfl)) (pa_cons (pv 3) pa_nil)))))))), ?_⟩
      refine ⟨_, rfl, _, _, rfl, rfl, _, rfl, ?_⟩
      refine ite2 (fun _ => ?_) (fun c => ?_)
      · refine iteT ⟨_, rfl, _, rfl, tp, many, rfl, l, t0, m1, by omega, fun r H1 h0 h1 t1 mv => ?_⟩
        exact q _ 1 _ H1 (num r H1 h0 h1) (bnd_pos d) t1 mv
      · have c' : ¬ (((d + 1 : Nat) : Nat) : Int) < 2 := of_decide_eq_false (Bool.eq_false_iff.mpr c)
        refine ⟨_, rfl, tp, 4, rfl, l, t0, by decide, by decide, fun r H1 h0 h1 t1 mv1 => ⟨rfl, _, rfl, ?_⟩⟩
        refine ite2 (fun _ => ?_) (fun _ => ?_)
        · refine ⟨_, rfl, _, rfl, tp, many, rfl, l, t1, m1, by omega, fun r2 H2 h2 h3 t2 mv2 => ?_⟩
          exact q _ 1 _ H2 (num r2 H2 h2 h3) (bnd_pos d) t2 (mv1.trans mv2)
        · refine ⟨(by show 7 ≤ PySem.sizeLine; decide), fun lp hlp => ?_⟩
          have nlp := t1.new hlp
          have g1 : Same H1 (upd H1 lp (.lst [V.int 2, V.int 2, V.int 3, V.int 2, V.int 1, V.int 3, V.int 0])) := same_new hlp
          refine ⟨_, rfl, tp, 7, rfl, l, t1.same g1, by decide, by decide, fun r2 H2 h2 h3 t2 mv2 => ?_⟩
          obtain ⟨j, hj, j0, j3⟩ := menu h2 h3
          refine ⟨lp, _, r2, V.int j, rfl, rfl, SqL.of (mv2 _ _ upd_same nlp.1), hj, j, rfl, by omega, by omega, fun D hD => ?_⟩
          have mv02 : Mov tp H H2 := (mv1.trans (mov_same g1)).trans mv2
          have nD := t2.new hD
          refine lc_range (lo := 0) (n := j.toNat) (fun i H3 => ∃ xs ys, H3 D = some (.lst xs) ∧ Paired (fun (x : V) (y : Nat × ASem) => AimV H3 many d x y.1 y.2) xs ys ∧ xs.length = i ∧ (∀ y ∈ ys, y.1 ≤ bnd d) ∧ TapeAt H3 tp l ∧ Mov tp H2 H3)
            ⟨[], [], upd_same, .nil, rfl, (fun y hy => absurd hy (List.not_mem_nil)), t2.upd nD, mov_mut (Mov.refl tp H2) hD⟩ ?_ ?_
          · rintro i H3 hi ⟨xs, ys, h3D, pr, lx, hb, t3, mv3⟩
            refine ⟨rfl, ?_⟩
            refine ⟨_, rfl, _, rfl, _, rfl, _, _, rfl, rfl, tp, many, _, rfl, l, by omega, by omega, t3, m1, m2, fun v sz φ H4 hA hs t4 mv4 => ?_⟩
            have h4D : H4 D = some (.lst xs) := mv4 _ _ h3D nD.1
            have kp : Keep H3 (upd H4 D (.lst (xs ++ [v]))) := (t3.keep mv4).trans (keep_lst h4D)
            refine ⟨xs, h4D, ?_, xs ++ [v], ys ++ [(sz, φ)], upd_same, paired_snoc (paired_mono (fun _ _ h => h.mono kp.tups) pr) (hA.mono (keep_lst h4D).tups), by rw [List.length_append, lx]; rfl, ?_, t4.upd nD, mov_mut (mv3.trans mv4) hD⟩
            · have b : (1000 : Nat) < PySem.sizeLine := by decide
              omega
            · intro y hy
              rcases List.mem_append.mp hy with z | z
              · exact hb y z
              · rw [List.mem_singleton.mp z]
                exact hs
          · rintro H3 ⟨xs, ys, h3D, pr, lx, hb, t3, mv3⟩
            refine ⟨D, xs, rfl, .inl ⟨SqL.of h3D, fun ip hip => ?_⟩⟩
            have g3 : Same H3 (upd H3 ip (.tup xs)) := same_new hip
            have t3' := t3.same g3
            have nip := t3.new hip
            have ipH : upd H3 ip (.tup xs) ip = some (.tup xs) := upd_same
            have el : xs.length = ys.length := paired_len pr
            have lb : 1 + (ys.map (·.1)).sum ≤ bnd (d + 1) := by
              have z := sum_bound (B := bnd d) (ys.map (·.1)) fun x hx => by
                obtain ⟨y, hy, rfl⟩ := List.mem_map.mp hx
                exact hb y hy
              rw [List.length_map, ← el, lx] at z
              have z2 : bnd d * j.toNat ≤ bnd d * 3 := Nat.mul_le_mul_left _ (by omega)
              show _ ≤ 1 + 3 * bnd d
              omega
            have made : ∀ (H4 : Hp) (a : Addr) (kd : AKind), Keep (upd H3 ip (.tup xs)) H4 → H4 a = some (.tup (kd.head ++ [.ref ip])) → kd.ok → AimV H4 many (d + 1) (.ref a) (1 + (ys.map (·.1)).sum) (fun wn => kd.val (ys.map fun y => y.2 wn)) := fun H4 a kd kp ha ok =>
              .inr ⟨a, ip, xs, kd, ys, rfl, ha, kp.tups _ _ ipH, ok, by omega, paired_mono (fun _ _ h => (h.mono (same_tups g3)).mono kp.tups) pr, rfl, rfl⟩
            refine ⟨_, rfl, tp, 4, rfl, l, t3', by decide, by decide, fun r4 H4 h4 h5 t4 mv4 => ⟨rfl, _, rfl, ?_⟩⟩
            have kp4 := t3'.keep mv4
            refine ite2 (fun _ => ?_) (fun _ => ?_)
            · refine ⟨_, rfl, _, rfl, ip, _, rfl, .inr (SqT.of (mv4 _ _ ipH nip.1)), _, _, rfl, rfl, tp, _, rfl, l, t4, by omega, by omega, fun r5 H5 h6 h7 t5 mv5 => ?_⟩
              refine ⟨_, rfl, (by show 3 ≤ PySem.sizeLine; decide), fun a ha => ?_⟩
              have g5 : Same H5 (upd H5 a (.tup [V.str "least", V.int r5, V.ref ip])) := same_new ha
              refine q _ _ _ _ (made _ a (.least r5) ((kp4.trans (t4.keep mv5)).trans (same_keep g5)) upd_same ⟨h6, by omega⟩) lb (t5.same g5) ?_
              exact (((mv02.trans mv3).trans (mov_same g3)).trans (mv4.trans mv5)).trans (mov_same g5)
            · refine ⟨(by show 2 ≤ PySem.sizeLine; decide), fun lq hlq => ?_⟩
              have nlq := t4.new hlq
              have g4 : Same H4 (upd H4 lq (.lst [V.str "all", V.str "some"])) := same_new hlq
              refine ⟨_, rfl, tp, 2, rfl, l, t4.same g4, by decide, by decide, fun r5 H5 h6 h7 t5 mv5 => ?_⟩
              have kp5 := kp4.trans ((same_keep g4).trans ((t4.same g4).keep mv5))
              have mv05 := ((mv02.trans mv3).trans (mov_same g3)).trans (mv4.trans ((mov_same g4).trans mv5))
              have hq : H5 lq = some (.lst [V.str "all", V.str "some"]) := mv5 _ _ upd_same nlq.1
              rcases (show r5 = 0 ∨ r5 = 1 by omega) with rfl | rfl
              · refine ⟨lq, _, 0, V.str "all", rfl, rfl, SqL.of hq, rfl, _, rfl, (by show 2 ≤ PySem.sizeLine; decide), fun a ha => ?_⟩
                have g5 : Same H5 (upd H5 a (.tup [V.str "all", V.ref ip])) := same_new ha
                exact q _ _ _ _ (made _ a .all (kp5.trans (same_keep g5)) upd_same trivial) lb (t5.same g5) (mv05.trans (mov_same g5))
              · refine ⟨lq, _, 1, V.str "some", rfl, rfl, SqL.of hq, rfl, _, rfl, (by show 2 ≤ PySem.sizeLine; decide), fun a ha => ?_⟩
                have g5 : Same H5 (upd H5 a (.tup [V.str "some", V.ref ip])) := same_new ha
                exact q _ _ _ _ (made _ a .some (kp5.trans (same_keep g5)) upd_same trivial) lb (t5.same g5) (mv05.trans (mov_same g5))
end
end K16
namespace K16
open PySem L2 Nm
open C8 (Cal Mak pe_c pe_mk pe_gc)
open RZ (ItzT pi_zipA)
section
variable {P : Program} {w : World} {K : PySem.W.Frag} {mg : Str → Option Value} {base : Heap}
def sp__law_holds (d : Nat) : Sp := fun vs H Q _ => ∃ (v : V) (lp : Addr), vs = [v, .ref lp] ∧ ∃ many s φ ns, AimV H many d v s φ ∧ H lp = some (.tup (List.map V.int ns)) ∧ ∀ H', Same H H' → Q (.bl (φ fun n => decide (n ∈ ns))) H'
theorem c__law_holds (T : Txt K mg) : ∀ d : Nat, Cal P w K mg base d "_law_holds" (sp__law_holds d) []
  | 0 => cal_void T.d__law_holds (ps := ["aim", "won"]) (fun _ _ _ _ _ _ us hl => match us, hl with | [_, _], _ => rfl) fun vs H Q E h => by
    obtain ⟨v, lp, _, many, s, φ, ns, hA, _⟩ := h
    exact hA
  | d + 1 => by
    have C__law_holds := c__law_holds T d
    have sc := sc__law_holds
    refine cal_of (k := d) T.d__law_holds sc (fun _ _ _ _ _ _ us hl => match us, hl with | [_, _], _ => rfl) (fun vs H Q E h => ?_) (fun f cdv A outer s H vs Q E hr h => ?_)
    · obtain ⟨v, lp, rfl, _⟩ := h
      rfl
    · obtain ⟨v, lp, rfl, many, sz, φ, ns, hA, hl, q⟩ := h
      refine ⟨_, (pss_cons (ps_if (pt_not (pt_val (pe_callB call_isi rfl T.m_isinstance (by decide +kernel) (pa_cons (pv 0) (pa_cons (pe_bltn (v := .ty "tuple") (u := .type "tuple") rfl T.m_tuple (by decide +kernel) rfl) pa_nil))))) (pss_one (ps_ret (pe_cmpR op_in_seq (pv 0) (pv 1) rfl))) pss_nil)
  (pss_cons (ps_setLc (i := 2) (own := [("one", 3)]) (g := gName 3) rfl sc.nd rfl rfl (sw_true rfl rfl rfl (by decide +kernel)) (pi_tup (pe_ix ix_tup (pv 0) (pe_un un_neg pe_int) (fun _ _ => rfl))) (blkOk_by (own := [("one", 3)]) (N := ["aim", "won", "told", "one"]) (sc := defScope s__law_holds) (by decide +kernel)) (fun _ _ _ _ _ => (pg_name (i := 3) sc.nd rfl (Or.inl rfl))) (fun _ _ _ _ _ => pts_nil) (fun _ _ _ _ _ => (pe_c C__law_holds hr (by omega) rfl (pa_cons (pv 3) (pa_cons (pv 1) pa_nil)))))
  (pss_cons (ps_if (pt_cmpR op_eq (pe_ix ix_tup (pv 0) pe_int (fun _ _ => rfl)) pe_str (nomark _)) (pss_one (ps_ret (pe_callB (cr_all rfl) rfl T.m_all (by decide +kernel) (pa_cons (pv 2) pa_nil)))) pss_nil)
  (pss_cons (ps_if (pt_cmpR op_eq (pe_ix ix_tup (pv 0) pe_int (fun _ _ => rfl)) pe_str (nomark _)) (pss_one (ps_ret (pe_callB (cr_any rfl) rfl T.m_any (by decide +kernel) (pa_cons (pv 2) pa_nil)))) pss_nil)
  (pss_one (ps_ret (pe_cmpR op_ge (pe_bm PySem.F.plainAttrs_list PySem.F.slot_list_count PySem.F.type_list_count Nm.mt_blcount (pv 2) (pa_cons pe_bl pa_nil)) (pe_ix ix_tup (pv 0) pe_int (fun _ _ => rfl)) (nomark _)))))))), ?_⟩
      rcases hA with ⟨n, rfl, n0, nm, rfl, rfl⟩ | ⟨a, p, xs, kd, ys, rfl, ha, hp, ok, l24, pr, es, rfl⟩
      · obtain ⟨t, t1, t2⟩ := tyc_int_tup (K := K) (H := H) n
        refine ⟨_, rfl, _, _, t, _, false, rfl, .ty _, t1, t2, false, rfl, ?_⟩
        refine iteT ⟨_, rfl, _, rfl, lp, _, rfl, .inr (SqT.of hl), rfl, flat_ints ns, ?_⟩
        show Q (V.bl (inV (V.int n) (ns.map V.int))) H
        rw [in_ints]
        exact q H (Same.refl H)
      · have el : xs.length = ys.length := paired_len pr
        obtain ⟨t, t1, t2⟩ := tyc_tup (K := K) ha
        have last : atI (kd.head ++ [V.ref p]) (-1) = some (V.ref p) := by cases kd <;> rfl
        refine ⟨_, rfl, _, _, t, _, true, rfl, .ty _, t1, t2, true, rfl, ?_⟩
        refine iteF ⟨_, rfl, 1, rfl, a, _, -1, .ref p, rfl, rfl, SqT.of ha, last, p, rfl, ⟨_, SqT.of hp⟩, fun D hD => ?_⟩
        refine lc_tup (K := K) (a := p) (xs := xs) (fun i H1 => H1 D = some (.lst ((ys.take i).map fun y => V.bl (y.2 fun n => decide (n ∈ ns)))) ∧ Same H H1) ⟨upd_same, same_new hD⟩ (fun i H1 _ z => SqT.of (z.2 _ _ hp)) ?_ ?_
        · rintro i x H1 hx ⟨h1, g⟩
          obtain ⟨y, hy, hA⟩ := paired_at pr i x hx
          refine ⟨rfl, ?_⟩
          refine ⟨_, rfl, _, rfl, x, lp, rfl, many, y.1, y.2, ns, hA.mono (same_tups g), g _ _ hl, fun H2 g2 => ⟨_, g2 _ _ h1, ?_, ?_, same_mut (g.trans g2) hD⟩⟩
          · rw [List.length_map, List.length_take]
            have b : (1000 : Nat) < PySem.sizeLine := by decide
            omega
          · rw [upd_same, take_one hy, List.map_append]
            rfl
        · rintro H1 ⟨h1, g⟩
          rw [el, List.take_length] at h1
          have h1' : H1 D = some (.lst ((ys.map fun y => y.2 fun n => decide (n ∈ ns)).map V.bl)) := by
            rw [h1, List.map_map]
            rfl
          have ha1 := g _ _ ha
          have q1 := q H1 g
          cases kd with
          | all =>
            refine ⟨_, rfl, a, _, 0, .str "all", rfl, rfl, SqT.of ha1, rfl, rfl, _, rfl, ?_⟩
            exact iteP rfl ⟨_, rfl, D, _, rfl, SqL.of h1', q1⟩
          | some =>
            refine ⟨_, rfl, a, _, 0, .str "some", rfl, rfl, SqT.of ha1, rfl, rfl, _, rfl, ?_⟩
            refine iteN (nt rfl) ⟨_, rfl, a, _, 0, .str "some", rfl, rfl, SqT.of ha1, rfl, rfl, _, rfl, ?_⟩
            exact iteP rfl ⟨_, rfl, D, _, rfl, SqL.of h1', q1⟩
          | least k =>
            refine ⟨_, rfl, a, _, 0, .str "least", rfl, rfl, SqT.of ha1, rfl, rfl, _, rfl, ?_⟩
            refine iteN (nt rfl) ⟨_, rfl, a, _, 0, .str "least", rfl, rfl, SqT.of ha1, rfl, rfl, _, rfl, ?_⟩
            refine iteN (nt rfl) ⟨_, rfl, .inl ⟨rfl, _, SqL.of h1'⟩, D, _, true, rfl, rfl, SqL.of h1', _, rfl, a, _, 1, .int k, rfl, rfl, SqT.of ha1, rfl, _, _, rfl, rfl, ?_⟩
            exact q1
end
end K16
namespace K16
open PySem L2 Nm
open C8 (Cal Mak pe_c pe_mk pe_gc)
open RZ (ItzT pi_zipA)
theorem all_le : ∀ {bs cs : List Bool}, Paired (fun b c => b = true → c = true) bs cs → bs.all id = true → cs.all id = true
  | _, _, .nil, _ => rfl
  | _, _, .cons h t, e => by
    rw [List.all_cons, Bool.and_eq_true] at e ⊢
    exact ⟨h e.1, all_le t e.2⟩
theorem any_le : ∀ {bs cs : List Bool}, Paired (fun b c => b = true → c = true) bs cs → bs.any id = true → cs.any id = true
  | _, _, .nil, e => e
  | _, _, .cons h t, e => by
    rw [List.any_cons, Bool.or_eq_true] at e ⊢
    exact e.imp h (any_le t)
theorem count_le : ∀ {bs cs : List Bool}, Paired (fun b c => b = true → c = true) bs cs → bs.count true ≤ cs.count true
  | _, _, .nil => Nat.le_refl _
  | _, _, .cons (a := b) (b := c) h t => by
    have ih := count_le t
    cases b <;> cases c
    · simpa using ih
    · simp
      omega
    · exact absurd (h rfl) Bool.false_ne_true
    · simpa using ih
theorem val_le {kd : AKind} {bs cs : List Bool} (p : Paired (fun b c => b = true → c = true) bs cs) (h : kd.val bs = true) : kd.val cs = true := by
  cases kd with
  | all => exact all_le p h
  | some => exact any_le p h
  | least k =>
    have h1 : k ≤ ((bs.count true : Nat) : Int) := of_decide_eq_true h
    have h2 := count_le p
    exact decide_eq_true (by omega)
theorem paired_vals {H : Hp} {many : Int} {d : Nat} {w1 w2 : Int → Bool} (ih : ∀ {v : V} {s : Nat} {φ : ASem}, AimV H many d v s φ → φ w1 = true → φ w2 = true) : ∀ {xs : List V} {ys : List (Nat × ASem)}, Paired (fun x y => AimV H many d x y.1 y.2) xs ys →
    Paired (fun b c => b = true → c = true) (ys.map fun y => y.2 w1) (ys.map fun y => y.2 w2)
  | _, _, .nil => .nil
  | _, _, .cons h t => .cons (ih h) (paired_vals ih t)
/-- more boards won never spoil an aim -/
theorem AimV.more {H : Hp} {many : Int} {w1 w2 : Int → Bool} (hw : ∀ n, w1 n = true → w2 n = true) : ∀ {d : Nat} {v : V} {s : Nat} {φ : ASem}, AimV H many d v s φ → φ w1 = true → φ w2 = true
  | 0, _, _, _, h, _ => h.elim
  | d + 1, v, s, φ, h, e => by
    rcases h with ⟨n, _, _, _, _, rfl⟩ | ⟨a, p, xs, kd, ys, h1, h2, h3, h4, h5, h6, h7, rfl⟩
    · exact hw n e
    · exact val_le (paired_vals (AimV.more hw) h6) e
/-- a lot of boards below m -/
structure LotOk (m : Nat) (ns : List Int) : Prop where
  in_ : ∀ n ∈ ns, 0 ≤ n ∧ n < (m : Int)
  up : ns.Pairwise (· < ·)
  len : ns.length ≤ 1000
theorem pw_snoc {ns : List Int} {i : Int} (h : ns.Pairwise (· < ·)) (l : ∀ n ∈ ns, n < i) : (ns ++ [i]).Pairwise (· < ·) := by
  rw [List.pairwise_append]
  exact ⟨h, List.pairwise_singleton _ _, fun a ha b hb => by rw [List.mem_singleton.mp hb]; exact l a ha⟩
/-- all that the law has drawn -/
structure Env (K : PySem.W.Frag) (tp l h : Addr) (bs : List Bd) (v : V) (s : Nat) (φ : ASem) (ip : Addr) (xs : List V) (ys : List (Nat × ASem)) (H : Hp) : Prop where
  tape : TapeAt H tp l
  hall : HallAt K H h bs
  aim : AimV H bs.length 4 v s φ
  inn : H ip = some (.tup xs)
  pr : Paired (fun x y => AimV H bs.length 3 x y.1 y.2) xs ys
theorem Env.keep {K : PySem.W.Frag} {tp l h : Addr} {bs : List Bd} {v : V} {s : Nat} {φ : ASem} {ip : Addr} {xs : List V} {ys : List (Nat × ASem)} {H H' : Hp} (e : Env K tp l h bs v s φ ip xs ys H) (k : Keep H H') (t : TapeAt H' tp l) : Env K tp l h bs v s φ ip xs ys H' :=
  ⟨t, e.hall.mono k, e.aim.mono k.tups, k.tups _ _ e.inn, paired_mono (fun _ _ z => z.mono k.tups) e.pr⟩
theorem Env.same {K : PySem.W.Frag} {tp l h : Addr} {bs : List Bd} {v : V} {s : Nat} {φ : ASem} {ip : Addr} {xs : List V} {ys : List (Nat × ASem)} {H H' : Hp} (e : Env K tp l h bs v s φ ip xs ys H) (g : Same H H') : Env K tp l h bs v s φ ip xs ys H' := e.keep (same_keep g) (e.tape.same g)
/-- a tuple around aims is an aim -/
theorem wrap {H : Hp} {many : Int} {d : Nat} {a p : Addr} {xs : List V} {ys : List (Nat × ASem)} (kd : AKind) (ha : H a = some (.tup (kd.head ++ [.ref p]))) (hp : H p = some (.tup xs)) (ok : kd.ok) (l : xs.length ≤ 24) (pr : Paired (fun x y => AimV H many d x y.1 y.2) xs ys) :
    AimV H many (d + 1) (.ref a) (1 + (ys.map (·.1)).sum) (fun wn => kd.val (ys.map fun y => y.2 wn)) := .inr ⟨a, p, xs, kd, ys, rfl, ha, hp, ok, l, pr, rfl, rfl⟩
theorem reach_ok {K : PySem.W.Frag} {H : Hp} {v : V} {d s : Nat} {φ : ASem} {lp h : Addr} {ns : List Int} {bs : List Bd} {Q : VK} {E : XK} (hh : HallAt K H h bs) (hA : AimV H bs.length d v s φ) (d8 : d ≤ 8) (s200 : s ≤ 200) (l1 : 1 ≤ bs.length) (l2 : bs.length ≤ 1000)
    (hl : H lp = some (.tup (List.map V.int ns))) (lot : LotOk bs.length ns) (q : ∀ H', Same H H' → Q (.bl (φ fun n => decide (n ∈ ns))) H') : sp_reached K [.ref h, v, .ref lp] H Q E :=
  ⟨h, v, lp, rfl, bs, d, s, φ, ns, hh, hA, d8, s200, l1, l2, hl, lot.in_, lot.up, lot.len, q⟩
theorem one_all (b : Bool) : AKind.val .all [b] = b := by cases b <;> rfl
theorem one_some (b : Bool) : AKind.val .some [b] = b := by cases b <;> rfl
theorem one_least (b : Bool) : AKind.val (.least 1) [b] = b := by cases b <;> rfl
theorem two_all (b : Bool) : AKind.val .all [b, b] = b := by cases b <;> rfl
theorem two_least (b : Bool) : AKind.val (.least 2) [b, b] = b := by cases b <;> rfl
theorem least_zero (bs : List Bool) : AKind.val (.least 0) bs = true := decide_eq_true (p := (0 : Int) ≤ ((bs.count true : Nat) : Int)) (by omega)
theorem least_over (bs : List Bool) : AKind.val (.least (bs.length + 1)) bs = false := decide_eq_false (by have := List.count_le_length (a := true) (l := bs); omega)
theorem least_len (bs : List Bool) : AKind.val (.least bs.length) bs = AKind.val .all bs := by
  rw [← kind_val .all bs]
  rfl
theorem least_one (bs : List Bool) : AKind.val (.least 1) bs = AKind.val .some bs := by
  rw [← kind_val .some bs]
  rfl
theorem bl_ne (b c : Bool) (h : b = c) : (!decide (V.bl b = V.bl c)) = false := by
  rw [h, decide_eq_true rfl]
  rfl
theorem bl_isnt (b c : Bool) (h : b = c) : (!decide (b = c)) = false := by
  rw [h, decide_eq_true rfl]
  rfl
/-- the board of which the law makes its hall -/
abbrev bd0 : Bd := ("p", 0, [])
theorem bd0_ok : boardB bd0 = true := by decide +kernel
theorem bd0_small : smallBd bd0 := ⟨by decide +kernel, by decide, fun z hz => absurd hz (List.not_mem_nil)⟩
theorem paired_rep {α β : Type} {R : α → β → Prop} {x : α} {y : β} (h : R x y) : ∀ n : Nat, Paired R (List.replicate n x) (List.replicate n y)
  | 0 => .nil
  | n + 1 => .cons h (paired_rep h n)
theorem rep_one {α : Type} (x : α) : ∀ n : Nat, (List.replicate n [x]).flatten = List.replicate n x
  | 0 => rfl
  | n + 1 => by
    rw [List.replicate_succ, List.flatten_cons, rep_one x n]
    rfl
theorem least_over' (bs : List Bool) (n : Nat) (h : bs.length = n) : AKind.val (.least ((n : Int) + 1)) bs = false := by
  subst h
  exact least_over bs
theorem least_len' (bs : List Bool) (n : Nat) (h : bs.length = n) : AKind.val (.least (n : Int)) bs = AKind.val .all bs := by
  subst h
  exact least_len bs
theorem two_new {H : Hp} {i o : Addr} {o1 o2 : HO} (hi : H i = none) (ho : upd H i o1 o = none) : Same H (upd (upd H i o1) o o2) := (same_new hi).trans (same_new ho)
theorem two_at {H Hf : Hp} {i o : Addr} {o1 o2 : HO} (ho : upd H i o1 o = none) (g : Same (upd (upd H i o1) o o2) Hf) : Hf o = some o2 ∧ Hf i = some o1 := ⟨g _ _ upd_same, g _ _ (same_new ho _ _ upd_same)⟩
/-- an aim that says the same -/
def Alike (H : Hp) (many : Int) (x : V) (φ : ASem) : Prop := ∃ s φ', AimV H many 5 x s φ' ∧ s ≤ 200 ∧ ∀ wn, φ' wn = φ wn
theorem Alike.same {H H' : Hp} {many : Int} {x : V} {φ : ASem} (z : Alike H many x φ) (g : Same H H') : Alike H' many x φ := by
  obtain ⟨s, φ', h1, h2, h3⟩ := z
  exact ⟨s, φ', h1.mono (same_tups g), h2, h3⟩
theorem Env.part {K : PySem.W.Frag} {tp l h : Addr} {bs : List Bd} {v : V} {s : Nat} {φ : ASem} {ip : Addr} {xs : List V} {ys : List (Nat × ASem)} {H : Hp} {o : Addr} (e : Env K tp l h bs v s φ ip xs ys H) (kd : AKind) (ho : H o = none) (ok : kd.ok) (lx : xs.length ≤ 24) :
    Env K tp l h bs v s φ ip xs ys (upd H o (.tup (kd.head ++ [.ref ip]))) ∧ AimV (upd H o (.tup (kd.head ++ [.ref ip]))) bs.length 4 (.ref o) (1 + (ys.map (·.1)).sum) (fun wn => kd.val (ys.map fun y => y.2 wn)) := by
  have e1 := e.same (same_new (o := .tup (kd.head ++ [.ref ip])) ho)
  exact ⟨e1, wrap kd upd_same e1.inn ok lx e1.pr⟩
theorem alike_one {H : Hp} {many : Int} {a p : Addr} {v : V} {s : Nat} {φ : ASem} (kd : AKind) (z : H a = some (.tup (kd.head ++ [.ref p])) ∧ H p = some (.tup [v])) (ok : kd.ok) (w1 : AimV H many 4 v s φ) (s40 : s ≤ 40) (e : ∀ b, kd.val [b] = b) : Alike H many (.ref a) φ :=
  ⟨_, _, wrap (ys := [(s, φ)]) kd z.1 z.2 ok (by show 1 ≤ 24; decide) (.cons w1 .nil), (by show 1 + (s + 0) ≤ 200; omega), fun wn => e _⟩
theorem alike_two {H : Hp} {many : Int} {a p : Addr} {v : V} {s : Nat} {φ : ASem} (kd : AKind) (z : H a = some (.tup (kd.head ++ [.ref p])) ∧ H p = some (.tup [v, v])) (ok : kd.ok) (w1 : AimV H many 4 v s φ) (s40 : s ≤ 40) (e : ∀ b, kd.val [b, b] = b) : Alike H many (.ref a) φ :=
  ⟨_, _, wrap (ys := [(s, φ), (s, φ)]) kd z.1 z.2 ok (by show 2 ≤ 24; decide) (.cons w1 (.cons w1 .nil)), (by show 1 + (s + (s + 0)) ≤ 200; omega), fun wn => e _⟩
/-- all boards -/
def allN (m : Nat) : List Int := (List.range m).map fun i => ((i : Nat) : Int)
theorem rg_all (m : Nat) : rgV 0 (m : Int) = (allN m).map V.int := by
  unfold rgV allN
  rw [List.map_map, show ((m : Int) - 0).toNat = m by omega]
  refine List.map_congr_left fun i _ => ?_
  show V.int (0 + (i : Int)) = V.int (i : Int)
  rw [Int.zero_add]
theorem lot_all {m : Nat} (h : m ≤ 1000) : LotOk m (allN m) := by
  refine ⟨fun n hn => ?_, ?_, ?_⟩
  · obtain ⟨i, hi, rfl⟩ := List.mem_map.mp hn
    have := List.mem_range.mp hi
    omega
  · unfold allN
    rw [List.pairwise_map]
    exact (List.pairwise_lt_range (n := m)).imp fun z => by omega
  · unfold allN
    rw [List.length_map, List.length_range]
    exact h
section
variable {P : Program} {w : World} {K : PySem.W.Frag} {mg : Str → Option Value} {base : Heap}
def sp_law (K : PySem.W.Frag) : Sp := fun vs H Q _ => ∃ (a : Addr) (ns : List Int), vs = [.ref a] ∧ SqL K H a (ns.map V.int) ∧ ∀ H', Q (.bl true) H'
theorem ok_law {f : Addr} {fd : FuncData} (F : Fun K "law" "law" s_law f fd) (T : Txt K mg) : FnOk P w K mg base CX0 16 f fd ["script"] (sp_law K) := by
  obtain ⟨C, C_Hall⟩ := c_Hall (P := P) (w := w) (base := base) T
  have C__law_tape := c__law_tape (P := P) (w := w) (base := base) T
  have C__law_pick := c__law_pick (P := P) (w := w) (base := base) T
  have C__law_flag := c__law_flag (P := P) (w := w) (base := base) T
  have C__law_aim := c__law_aim (P := P) (w := w) (base := base) T 4
  have C__law_aim3 := c__law_aim (P := P) (w := w) (base := base) T 3
  have C__law_holds := c__law_holds (P := P) (w := w) (base := base) T 4
  have C_reached := c_reached (P := P) (w := w) (base := base) T
  have sc := sc_law
  refine F.ok (k := 15) sc (fun vs H Q E h => ?_) (fun cdv A outer s H vs Q E hr h => ?_)
  · obtain ⟨a, ns, rfl, _⟩ := h
    rfl
  · obtain ⟨a, ns, rfl, hs, q⟩ := h
    refine ⟨_, (pss_cons (ps_set (i := 1) sc.nd rfl (Or.inr rfl) (pe_c C__law_tape hr (by omega) rfl (pa_cons (pv 0) pa_nil)))
  (pss_cons (ps_set (i := 2) sc.nd rfl (Or.inr rfl) (pe_op op_add pe_int (pe_c C__law_pick hr (by omega) rfl (pa_cons (pv 1) (pa_cons pe_int pa_nil)))))
  (C8.pss_cut (ps_set (i := 3) sc.nd rfl (Or.inl rfl) (pe_mk C_Hall hr (by omega) rfl (pa_cons (pe_op (OpR.or Nm.op_rep1 op_repT) (pe_tup (pa_cons (pe_tup (pa_cons pe_str (pa_cons pe_int (pa_cons (pe_tup pa_nil) pa_nil)))) pa_nil)) (pv 2)) pa_nil)))
  (pss_cons (ps_for PassesOwn.never rfl (pi_range1 rfl T.m_range (pa_cons pe_int pa_nil)) (pg_name (i := 4) sc.nd rfl (Or.inl rfl)) (pss_cons (ps_set (i := 5) sc.nd rfl (Or.inl rfl) (pe_c C__law_aim hr (by omega) rfl (pa_cons (pv 1) (pa_cons (pv 2) (pa_cons pe_int pa_nil)))))
  (pss_cons (ps_set (i := 6) sc.nd rfl (Or.inl rfl) (pe_callTy call_tuple_of rfl T.m_tuple (by decide +kernel) (pa_cons (pe_lc (own := [("k", 7)]) (g := gName 7) rfl sc.nd (pi_range1 rfl T.m_range (pa_cons (pe_c C__law_pick hr (by omega) rfl (pa_cons (pv 1) (pa_cons pe_int pa_nil))) pa_nil)) (blkOk_by (own := [("k", 7)]) (N := ["script", "tape", "many", "hall", "turn", "aim", "inner", "k", "lot", "more", "due", "same", "board"]) (sc := defScope s_law) (by decide +kernel)) (fun _ _ _ _ _ => (pg_name (i := 7) sc.nd rfl (Or.inl rfl))) (fun _ _ _ _ _ => pts_nil) (fun _ _ _ _ _ => (pe_c C__law_aim3 hr (by omega) rfl (pa_cons (pv 1) (pa_cons (pv 2) (pa_cons pe_int pa_nil)))))) pa_nil)))
  (pss_cons (ps_for PassesOwn.never rfl (pi_range1 rfl T.m_range (pa_cons pe_int pa_nil)) (pg_name (i := 7) sc.nd rfl (Or.inl rfl)) (pss_cons (ps_set (i := 8) sc.nd rfl (Or.inr rfl) (pe_callTy call_tuple_of rfl T.m_tuple (by decide +kernel) (pa_cons (pe_lc (own := [("board", 12)]) (g := gName 12) rfl sc.nd (pi_range1 rfl T.m_range (pa_cons (pv 2) pa_nil)) (blkOk_by (own := [("board", 12)]) (N := ["script", "tape", "many", "hall", "turn", "aim", "inner", "k", "lot", "more", "due", "same", "board"]) (sc := defScope s_law) (by decide +kernel)) (fun _ _ _ _ _ => (pg_name (i := 12) sc.nd rfl (Or.inl rfl))) (fun _ _ _ _ _ => (pts_one (pt_cmpR op_eq (pe_c C__law_pick hr (by omega) rfl (pa_cons (pv 1) (pa_cons pe_int pa_nil))) pe_int (nomark _)))) (fun _ _ _ _ _ => (pv 12))) pa_nil)))
  (pss_cons (ps_set (i := 9) sc.nd rfl (Or.inl rfl) (pe_callTy call_tuple_of rfl T.m_tuple (by decide +kernel) (pa_cons (pe_lc (own := [("board", 12)]) (g := gName 12) rfl sc.nd (pi_range1 rfl T.m_range (pa_cons (pv 2) pa_nil)) (blkOk_by (own := [("board", 12)]) (N := ["script", "tape", "many", "hall", "turn", "aim", "inner", "k", "lot", "more", "due", "same", "board"]) (sc := defScope s_law) (by decide +kernel)) (fun _ _ _ _ _ => (pg_name (i := 12) sc.nd rfl (Or.inl rfl))) (fun _ _ _ _ _ => (pts_one (PW.pt (pw_or (pt_cmpR (r := rIn K false) op_in_seq (pv 12) (pv 8) rfl) (pw_or1 (pt_cmpR op_eq (pe_c C__law_pick hr (by omega) rfl (pa_cons (pv 1) (pa_cons pe_int pa_nil))) pe_int (nomark _))))))) (fun _ _ _ _ _ => (pv 12))) pa_nil)))
  (pss_cons (ps_set (i := 10) sc.nd rfl (Or.inl rfl) (pe_c C__law_holds hr (by omega) rfl (pa_cons (pv 5) (pa_cons (pv 8) pa_nil))))
  (C8.pss_cut (ps_if (PW.pt (pw_or (pt_not (pt_val (pe_c C__law_flag hr (by omega) rfl (pa_cons (pe_c C_reached hr (by omega) rfl (pa_cons (pv 3) (pa_cons (pv 5) (pa_cons (pv 8) pa_nil)))) (pa_cons (pv 10) pa_nil))))) (pw_or1 (PW.pt (pw_and (pt_val (pv 10)) (pw_and1 (pt_cmpR op_isnot_bl (pe_c C_reached hr (by omega) rfl (pa_cons (pv 3) (pa_cons (pv 5) (pa_cons (pv 9) pa_nil)))) pe_bl (nomark _)))))))) (pss_one (ps_ret pe_bl)) pss_nil)
  (pss_cons (ps_for PassesOwn.never rfl (pi_list (pe_lst (pa_cons (pe_tup (pa_cons pe_str (pa_cons (pe_tup (pa_cons (pv 5) pa_nil)) pa_nil))) (pa_cons (pe_tup (pa_cons pe_str (pa_cons (pe_tup (pa_cons (pv 5) pa_nil)) pa_nil))) (pa_cons (pe_tup (pa_cons pe_str (pa_cons pe_int (pa_cons (pe_tup (pa_cons (pv 5) pa_nil)) pa_nil)))) (pa_cons (pe_tup (pa_cons pe_str (pa_cons (pe_tup (pa_cons (pv 5) (pa_cons (pv 5) pa_nil))) pa_nil))) (pa_cons (pe_tup (pa_cons pe_str (pa_cons pe_int (pa_cons (pe_tup (pa_cons (pv 5) (pa_cons (pv 5) pa_nil))) pa_nil)))) pa_nil))))))) (pg_name (i := 11) sc.nd rfl (Or.inl rfl)) (pss_one (ps_if (pt_cmpR op_ne (pe_c C_reached hr (by omega) rfl (pa_cons (pv 3) (pa_cons (pv 11) (pa_cons (pv 8) pa_nil)))) (pv 10) (nomark _)) (pss_one (ps_ret pe_bl)) pss_nil)))
  (pss_cons (ps_if (PW.pt (pw_or (pt_cmpR op_isnot_bl (pe_c C_reached hr (by omega) rfl (pa_cons (pv 3) (pa_cons (pe_tup (pa_cons pe_str (pa_cons pe_int (pa_cons (pv 6) pa_nil)))) (pa_cons (pv 8) pa_nil)))) pe_bl (nomark _)) (pw_or1 (pt_val (pe_c C_reached hr (by omega) rfl (pa_cons (pv 3) (pa_cons (pe_tup (pa_cons pe_str (pa_cons (pe_op op_add (pe_callB call_len_seq rfl T.m_len (by decide +kernel) (pa_cons (pv 6) pa_nil)) pe_int) (pa_cons (pv 6) pa_nil)))) (pa_cons (pv 8) pa_nil)))))))) (pss_one (ps_ret pe_bl)) pss_nil)
  (pss_cons (ps_if (pt_cmpR op_ne (pe_c C_reached hr (by omega) rfl (pa_cons (pv 3) (pa_cons (pe_tup (pa_cons pe_str (pa_cons (pe_callB call_len_seq rfl T.m_len (by decide +kernel) (pa_cons (pv 6) pa_nil)) (pa_cons (pv 6) pa_nil)))) (pa_cons (pv 8) pa_nil)))) (pe_c C_reached hr (by omega) rfl (pa_cons (pv 3) (pa_cons (pe_tup (pa_cons pe_str (pa_cons (pv 6) pa_nil))) (pa_cons (pv 8) pa_nil)))) (nomark _)) (pss_one (ps_ret pe_bl)) pss_nil)
  (pss_one (ps_if (PW.pt (pw_and (pt_cmpR op_gt (pe_callB call_len_seq rfl T.m_len (by decide +kernel) (pa_cons (pv 6) pa_nil)) pe_int (nomark _)) (pw_and1 (pt_cmpR op_ne (pe_c C_reached hr (by omega) rfl (pa_cons (pv 3) (pa_cons (pe_tup (pa_cons pe_str (pa_cons pe_int (pa_cons (pv 6) pa_nil)))) (pa_cons (pv 8) pa_nil)))) (pe_c C_reached hr (by omega) rfl (pa_cons (pv 3) (pa_cons (pe_tup (pa_cons pe_str (pa_cons (pv 6) pa_nil))) (pa_cons (pv 8) pa_nil)))) (nomark _))))) (pss_one (ps_ret pe_bl)) pss_nil))))))))))
  (pss_one (ps_if (PW.pt (pw_or (pt_cmpR op_isnot_bl (pe_c C_reached hr (by omega) rfl (pa_cons (pv 3) (pa_cons (pe_tup (pa_cons pe_str (pa_cons (pe_tup pa_nil) pa_nil))) (pa_cons (pe_tup pa_nil) pa_nil)))) pe_bl (nomark _)) (pw_or1 (pt_cmpR op_isnot_bl (pe_c C_reached hr (by omega) rfl (pa_cons (pv 3) (pa_cons (pe_tup (pa_cons pe_str (pa_cons (pe_tup pa_nil) pa_nil))) (pa_cons (pe_tupRg rfl rfl T.m_tuple (prg_1 rfl T.m_range (pv 2))) pa_nil)))) pe_bl (nomark _))))) (pss_one (ps_ret pe_bl)) pss_nil))))))
  (pss_one (ps_ret pe_bl)))))), ?_⟩
    refine ⟨_, rfl, a, rfl, ns, hs, fun tp l H1 g1 htp t1 => ?_⟩
    refine ⟨_, rfl, tp, 10, rfl, l, t1, by decide, by decide, fun r H2 r0 r10 t2 mv2 => ⟨1, r, rfl, rfl, ?_⟩⟩
    obtain ⟨m, em, m1, m10⟩ : ∃ m : Nat, 1 + r = (m : Int) ∧ 1 ≤ m ∧ m ≤ 10 := ⟨(1 + r).toNat, by omega, by omega, by omega⟩
    show gName 2 (V.int (1 + r)) _ _ _
    rw [em]
    refine ⟨fun σ H3 => ∃ h, σ = [some (.ref a), some (.ref tp), some (.int m), some (.ref h), none, none, none, none, none, none, none, none, none] ∧ TapeAt H3 tp l ∧ HallAt K H3 h (List.replicate m bd0), ?_, ?_⟩
    · refine ⟨(by show 0 ≤ PySem.sizeLine; decide), fun e0 he0 => ⟨(by show 3 ≤ PySem.sizeLine; decide), fun b0 hb0 => ⟨(by show 1 ≤ PySem.sizeLine; decide), fun o0 ho0 => ?_⟩⟩⟩
      have k1 : Same H2 (upd H2 e0 (.tup [])) := same_new he0
      have k2 := k1.trans (same_new (o := .tup [V.str "p", V.int 0, V.ref e0]) hb0)
      have k3 := k2.trans (same_new (o := .tup [V.ref b0]) ho0)
      have at_ : BoardAt (upd (upd (upd H2 e0 (.tup [])) b0 (.tup [V.str "p", V.int 0, V.ref e0])) o0 (.tup [V.ref b0])) (.ref b0) bd0 := ⟨b0, e0, rfl, same_new ho0 _ _ upd_same, same_new ho0 _ _ (same_new hb0 _ _ upd_same)⟩
      have fin : ∀ (p : Addr) (H3 : Hp), TapeAt H3 tp l → BoardsAt H3 p (List.replicate m bd0) → ∀ x dx, H3 x = none → H3 dx = none → dx ≠ x → sp_Hall K C [.ref x, .ref p] (upd (upd H3 dx (.own x)) x (.ins C dx [])) (fun v H4 => v = .non ∧ ∃ h, [some (V.ref a), some (V.ref tp), some (V.int m), some (V.ref x), none, none, none, none, none, none, none, none, none] = [some (V.ref a), some (V.ref tp), some (V.int m), some (V.ref h), none, none, none, none, none, none, none, none, none] ∧ TapeAt H4 tp l ∧ HallAt K H4 h (List.replicate m bd0)) E0 := fun p H3 t3 hb x dx hx hdx ne => by
        have kk : Same H3 (upd (upd H3 dx (.own x)) x (.ins C dx [])) := fun c o ho => by
          rw [upd_ne (ne_of_none ho hx), upd_ne (ne_of_none ho hdx)]
          exact ho
        have tk := t3.same kk
        refine ⟨x, dx, p, List.replicate m bd0, rfl, upd_same, hb.mono (same_tups kk), fun c hc => ?_, by rw [List.length_replicate]; exact m1, by rw [List.length_replicate]; omega, fun H4 hh kp => ⟨rfl, x, rfl, ?_, hh⟩⟩
        · rw [List.eq_of_mem_replicate hc]
          exact ⟨bd0_ok, bd0_small⟩
        · obtain ⟨zs, i, c, k, j, z1, z2, z3⟩ := tk
          refine ⟨zs, i, c, k, j, kp _ _ z1 (fun e => ?_), kp _ _ z2 (fun e => ?_), z3⟩
          · rw [e, upd_same] at z1
            cases z1
          · rw [e, upd_same] at z2
            cases z2
      refine ⟨_, rfl, ?_⟩
      by_cases c1 : m = 1
      · subst c1
        exact .inl ⟨o0, _, rfl, rfl, SqT.of upd_same, fin o0 _ (t2.same k3) ⟨[V.ref b0], upd_same, .cons at_ .nil⟩⟩
      · refine .inr ⟨o0, _, _, rfl, rfl, SqT.of upd_same, (fun z => nomatch z), by omega, by omega, (by show 1 ≤ 1000; decide), fun p hp => ?_⟩
        have k4 : Same (upd (upd (upd H2 e0 (.tup [])) b0 (.tup [V.str "p", V.int 0, V.ref e0])) o0 (.tup [V.ref b0])) (upd (upd (upd (upd H2 e0 (.tup [])) b0 (.tup [V.str "p", V.int 0, V.ref e0])) o0 (.tup [V.ref b0])) p (.tup (List.replicate (m : Int).toNat [V.ref b0]).flatten)) := same_new hp
        refine fin p _ ((t2.same k3).same k4) ⟨List.replicate m (V.ref b0), ?_, paired_rep (at_.mono (same_tups k4)) m⟩
        rw [upd_same, rep_one, Int.toNat_natCast]
    · rintro σ H3 ⟨h, rfl, t3, hh3⟩
      generalize hbs : List.replicate m bd0 = bs at hh3
      have lbs : bs.length = m := by rw [← hbs, List.length_replicate]
      refine ⟨4, rfl, by decide, by decide, ?_⟩
      refine for_range (lo := 0) (n := 4) (fun i σ H4 => ∃ v4 v5 v6 v7 v8 v9 v10 v11 v12, σ = [some (.ref a), some (.ref tp), some (.int m), some (.ref h), v4, v5, v6, v7, v8, v9, v10, v11, v12] ∧ TapeAt H4 tp l ∧ HallAt K H4 h bs)
        ⟨none, none, none, none, none, none, none, none, none, rfl, t3, hh3⟩ ?_ ?_
      · rintro i σ H4 hi ⟨v4, v5, v6, v7, v8, v9, v10, v11, v12, rfl, t4, hh4⟩
        -- aim
        refine ⟨_, rfl, _, rfl, tp, m, 4, rfl, l, rfl, by decide, t4, by omega, by omega, fun v sv φ H5 hA hsv t5 mv5 => ?_⟩
        have s40 : sv ≤ 40 := hsv
        have hh5 := hh4.mono (t4.keep mv5)
        rw [← lbs] at hA
        -- inner
        refine ⟨_, rfl, tp, 4, rfl, l, t5, by decide, by decide, fun j H6 j0 j4 t6 mv6 => ⟨j, rfl, by omega, by omega, fun D hD => ?_⟩⟩
        have hh6 := hh5.mono (t5.keep mv6)
        have hA6 := hA.mono (t5.keep mv6).tups
        have nD := t6.new hD
        refine lc_range (lo := 0) (n := j.toNat) (fun i H7 => ∃ xs ys, H7 D = some (.lst xs) ∧ Paired (fun (x : V) (y : Nat × ASem) => AimV H7 bs.length 3 x y.1 y.2) xs ys ∧ xs.length = i ∧ (∀ y ∈ ys, y.1 ≤ 13) ∧ TapeAt H7 tp l ∧ Keep H6 H7)
          ⟨[], [], upd_same, .nil, rfl, (fun y hy => absurd hy (List.not_mem_nil)), t6.upd nD, same_keep (same_new hD)⟩ ?_ ?_
        · rintro i7 H7 hi7 ⟨xs, ys, h7D, pr, lx, hb, t7, k7⟩
          refine ⟨rfl, ?_⟩
          refine ⟨_, rfl, _, rfl, tp, m, 3, rfl, l, rfl, by decide, t7, by omega, by omega, fun v' sz φ' H8 hA8 hs8 t8 mv8 => ?_⟩
          rw [← lbs] at hA8
          have h8D : H8 D = some (.lst xs) := mv8 _ _ h7D nD.1
          have kp : Keep H7 (upd H8 D (.lst (xs ++ [v']))) := (t7.keep mv8).trans (keep_lst h8D)
          refine ⟨xs, h8D, ?_, xs ++ [v'], ys ++ [(sz, φ')], upd_same, paired_snoc (paired_mono (fun _ _ z => z.mono kp.tups) pr) (hA8.mono (keep_lst h8D).tups), by rw [List.length_append, lx]; rfl, ?_, t8.upd nD, k7.trans kp⟩
          · have b : (1000 : Nat) < PySem.sizeLine := by decide
            omega
          · intro y hy
            rcases List.mem_append.mp hy with z | z
            · exact hb y z
            · rw [List.mem_singleton.mp z]
              exact hs8
        · rintro H7 ⟨xs, ys, h7D, pr, lx, hb, t7, k7⟩
          refine ⟨D, xs, rfl, .inl ⟨SqL.of h7D, fun ip hip => ?_⟩⟩
          have g8 : Same H7 (upd H7 ip (.tup xs)) := same_new hip
          have env8 : Env K tp l h bs v sv φ ip xs ys (upd H7 ip (.tup xs)) := ⟨t7.same g8, (hh6.mono k7).mono (same_keep g8), (hA6.mono k7.tups).mono (same_tups g8), upd_same, paired_mono (fun _ _ z => z.mono (same_tups g8)) pr⟩
          have lx3 : xs.length ≤ 3 := by omega
          have el : xs.length = ys.length := paired_len pr
          have sum40 : 1 + (ys.map (·.1)).sum ≤ 40 := by
            have z := sum_bound (B := 13) (ys.map (·.1)) fun x hx => by
              obtain ⟨y, hy, rfl⟩ := List.mem_map.mp hx
              exact hb y hy
            rw [List.length_map, ← el] at z
            omega
          clear pr h7D t7 k7 hip
          generalize upd H7 ip (.tup xs) = H8 at env8
          -- for k in range(6)
          refine ⟨6, rfl, by decide, by decide, ?_⟩
          refine for_range (lo := 0) (n := 6) (fun i σ H9 => ∃ u4 u7 u8 u9 u10 u11 u12, σ = [some (.ref a), some (.ref tp), some (.int m), some (.ref h), u4, some v, some (.ref ip), u7, u8, u9, u10, u11, u12] ∧ Env K tp l h bs v sv φ ip xs ys H9)
            ⟨_, _, _, _, _, _, _, rfl, env8⟩ ?_ ?_
          · rintro i9 σ H9 hi9 ⟨u4, u7, u8, u9, u10, u11, u12, rfl, env9⟩
            -- lot
            have t9 := env9.tape
            refine ⟨_, rfl, (m : Int), rfl, by omega, by omega, fun D hD => ?_⟩
            have nD9 := t9.new hD
            refine lc_range (lo := 0) (n := ((m : Nat) : Int).toNat) (fun i H7 => ∃ ns : List Int, H7 D = some (.lst (ns.map V.int)) ∧ (∀ n ∈ ns, 0 ≤ n ∧ n < (i : Int)) ∧ ns.Pairwise (· < ·) ∧ ns.length ≤ i ∧ Env K tp l h bs v sv φ ip xs ys H7)
              ⟨[], upd_same, (fun n hn => absurd hn (List.not_mem_nil)), List.Pairwise.nil, Nat.zero_le _, env9.same (same_new hD)⟩ ?_ ?_
            · rintro i7 H7 hi7 ⟨ns, h7D, nb, nu, nl, env7⟩
              refine ⟨rfl, ?_⟩
              refine ⟨_, rfl, tp, 2, rfl, l, env7.tape, by decide, by decide, fun r8 H8 _ _ t8 mv8 => ⟨rfl, _, rfl, ?_⟩⟩
              have env8 := env7.keep (env7.tape.keep mv8) t8
              have h8D : H8 D = some (.lst (ns.map V.int)) := mv8 _ _ h7D nD9.1
              refine ite2 (fun _ => ?_) (fun _ => ?_)
              · refine ⟨_, rfl, _, h8D, ?_, ns ++ [0 + (i7 : Int)], ?_, ?_, pw_snoc nu (fun n hn => by have := (nb n hn).2; omega), by rw [List.length_append, List.length_singleton]; omega, env8.keep (keep_lst h8D) (t8.upd nD9)⟩
                · rw [List.length_map]
                  have b : (1000 : Nat) < PySem.sizeLine := by decide
                  omega
                · rw [upd_same, List.map_append]
                  rfl
                · intro n hn
                  rcases List.mem_append.mp hn with z | z
                  · have := nb n z
                    omega
                  · rw [List.mem_singleton.mp z]
                    omega
              · exact ⟨ns, h8D, fun n hn => by have := nb n hn; omega, nu, by omega, env8⟩
            · rintro H7 ⟨ns, h7D, nb, nu, nl, env7⟩
              refine ⟨D, _, rfl, .inl ⟨SqL.of h7D, fun lp hlp => ?_⟩⟩
              have lot : LotOk bs.length ns := ⟨fun n hn => by have := nb n hn; omega, nu, by omega⟩
              have env10 := env7.same (same_new (o := .tup (ns.map V.int)) hlp)
              have hl10 : upd H7 lp (.tup (ns.map V.int)) lp = some (.tup (ns.map V.int)) := upd_same
              generalize upd H7 lp (.tup (ns.map V.int)) = H10 at env10 hl10
              clear h7D env7 hlp hD nD9 env9 t9
              -- more
              refine ⟨_, rfl, (m : Int), rfl, by omega, by omega, fun D hD => ?_⟩
              have nD9 := env10.tape.new hD
              refine lc_range (lo := 0) (n := ((m : Nat) : Int).toNat) (fun i H7 => ∃ ms : List Int, H7 D = some (.lst (ms.map V.int)) ∧ (∀ n ∈ ms, 0 ≤ n ∧ n < (i : Int)) ∧ ms.Pairwise (· < ·) ∧ ms.length ≤ i ∧ (∀ n ∈ ns, n < (i : Int) → n ∈ ms) ∧ H7 lp = some (.tup (ns.map V.int)) ∧ Env K tp l h bs v sv φ ip xs ys H7)
                ⟨[], upd_same, (fun n hn => absurd hn (List.not_mem_nil)), List.Pairwise.nil, Nat.zero_le _, (fun n hn z => by have := nb n hn; omega), same_new hD _ _ hl10, env10.same (same_new hD)⟩ ?_ ?_
              · rintro i7 H7 hi7 ⟨ms, h7D, mb, mu, ml, sub, h7l, env7⟩
                refine ⟨rfl, ?_⟩
                have step : ∀ H8, H8 D = some (.lst (ms.map V.int)) → H8 lp = some (.tup (ns.map V.int)) → Env K tp l h bs v sv φ ip xs ys H8 → ∃ acc, H8 D = some (.lst acc) ∧ acc.length < PySem.sizeLine ∧ ∃ ms' : List Int, upd H8 D (.lst (acc ++ [V.int (0 + (i7 : Int))])) D = some (.lst (ms'.map V.int)) ∧ (∀ n ∈ ms', 0 ≤ n ∧ n < ((i7 + 1 : Nat) : Int)) ∧ ms'.Pairwise (· < ·) ∧ ms'.length ≤ i7 + 1 ∧ (∀ n ∈ ns, n < ((i7 + 1 : Nat) : Int) → n ∈ ms') ∧ upd H8 D (.lst (acc ++ [V.int (0 + (i7 : Int))])) lp = some (.tup (ns.map V.int)) ∧ Env K tp l h bs v sv φ ip xs ys (upd H8 D (.lst (acc ++ [V.int (0 + (i7 : Int))]))) := fun H8 h8D h8l env8 => by
                  refine ⟨_, h8D, ?_, ms ++ [0 + (i7 : Int)], ?_, ?_, pw_snoc mu (fun n hn => by have := (mb n hn).2; omega), by rw [List.length_append, List.length_singleton]; omega, ?_, ?_, env8.keep (keep_lst h8D) (env8.tape.upd nD9)⟩
                  · rw [List.length_map]
                    have b : (1000 : Nat) < PySem.sizeLine := by decide
                    omega
                  · rw [upd_same, List.map_append]
                    rfl
                  · intro n hn
                    rcases List.mem_append.mp hn with z | z
                    · have := mb n z
                      omega
                    · rw [List.mem_singleton.mp z]
                      omega
                  · intro n hn z
                    rw [List.mem_append, List.mem_singleton]
                    by_cases c : n < (i7 : Int)
                    · exact .inl (sub n hn c)
                    · exact .inr (by omega)
                  · rw [upd_ne (ne_of h8l h8D (fun e => nomatch e))]
                    exact h8l
                refine ⟨_, rfl, _, rfl, lp, _, rfl, .inr (SqT.of h7l), rfl, flat_ints ns, _, rfl, ?_⟩
                show if inV (V.int (0 + (i7 : Int))) (ns.map V.int) = true then _ else _
                rw [in_ints]
                refine ite2 (fun _ => iteT ⟨_, rfl, step H7 h7D h7l env7⟩) (fun cn => ?_)
                have no : ¬ (0 + (i7 : Int)) ∈ ns := of_decide_eq_false (Bool.eq_false_iff.mpr cn)
                refine ⟨_, rfl, tp, 3, rfl, l, env7.tape, by decide, by decide, fun r8 H8 _ _ t8 mv8 => ⟨rfl, _, rfl, ?_⟩⟩
                have env8 := env7.keep (env7.tape.keep mv8) t8
                have h8D : H8 D = some (.lst (ms.map V.int)) := mv8 _ _ h7D nD9.1
                have h8l : H8 lp = some (.tup (ns.map V.int)) := (env7.tape.keep mv8).tups _ _ h7l
                refine ite2 (fun _ => ⟨_, rfl, step H8 h8D h8l env8⟩) (fun _ => ?_)
                refine ⟨ms, h8D, fun n hn => by have := mb n hn; omega, mu, by omega, fun n hn z => sub n hn ?_, h8l, env8⟩
                have : n ≠ 0 + (i7 : Int) := fun e => no (e ▸ hn)
                omega
              · rintro H7 ⟨ms, h7D, mb, mu, ml, sub, h7l, env7⟩
                refine ⟨D, _, rfl, .inl ⟨SqL.of h7D, fun mp hmp => ?_⟩⟩
                have mot : LotOk bs.length ms := ⟨fun n hn => by have := mb n hn; omega, mu, by omega⟩
                have subs : ∀ n ∈ ns, n ∈ ms := fun n hn => sub n hn (by have := nb n hn; omega)
                have env11 := env7.same (same_new (o := .tup (ms.map V.int)) hmp)
                have hl11 : upd H7 mp (.tup (ms.map V.int)) lp = some (.tup (ns.map V.int)) := same_new hmp _ _ h7l
                have hm11 : upd H7 mp (.tup (ms.map V.int)) mp = some (.tup (ms.map V.int)) := upd_same
                generalize upd H7 mp (.tup (ms.map V.int)) = H11 at env11 hl11 hm11
                clear h7D env7 hmp hD nD9 env10 hl10 h7l
                -- due
                refine ⟨_, rfl, _, rfl, v, lp, rfl, bs.length, sv, φ, ns, env11.aim, hl11, fun H12 g12 => ?_⟩
                have env12 := env11.same g12
                have hl12 := g12 _ _ hl11
                have hm12 := g12 _ _ hm11
                generalize hdue : (φ fun n => decide (n ∈ ns)) = due
                refine ⟨fun σ H13 => ∃ u11, σ = [some (.ref a), some (.ref tp), some (.int m), some (.ref h), u4, some v, some (.ref ip), some (.int (0 + (i9 : Int))), some (.ref lp), some (.ref mp), some (.bl due), u11, u12] ∧ Env K tp l h bs v sv φ ip xs ys H13 ∧ H13 lp = some (.tup (ns.map V.int)), ?_, ?_⟩
                · refine ⟨_, rfl, _, rfl, _, rfl, h, v, lp, rfl, bs, 4, sv, φ, ns, env12.hall, env12.aim, by decide, by omega, by omega, by omega, hl12, lot.in_, lot.up, lot.len, fun H13 g13 => ?_⟩
                  refine ⟨_, rfl, _, _, rfl, _, rfl, ?_⟩
                  refine iteN (nt (bl_isnt _ _ hdue)) ?_
                  have fine : ∀ H14, Same H13 H14 → Env K tp l h bs v sv φ ip xs ys H14 ∧ H14 lp = some (.tup (ns.map V.int)) := fun H14 g14 => ⟨env12.same (g13.trans g14), (g13.trans g14) _ _ hl12⟩
                  refine ⟨_, rfl, _, rfl, ?_⟩
                  refine ite2 (fun cd => ?_) (fun _ => ?_)
                  · have e13 := (fine H13 (Same.refl H13)).1
                    refine ⟨_, rfl, _, rfl, _, rfl, h, v, mp, rfl, bs, 4, sv, φ, ms, e13.hall, e13.aim, by decide, by omega, by omega, by omega, g13 _ _ hm12, mot.in_, mot.up, mot.len, fun H14 g14 => ?_⟩
                    have up : (φ fun n => decide (n ∈ ms)) = true := AimV.more (fun n z => decide_eq_true (subs n (of_decide_eq_true z))) e13.aim (hdue.trans cd)
                    refine ⟨_, _, rfl, rfl, _, rfl, ?_⟩
                    exact iteN (nt (bl_isnt _ _ up)) ⟨_, rfl, fine H14 g14⟩
                  · exact iteF ⟨_, rfl, fine H13 (Same.refl H13)⟩
                · clear env12 hl12 hm12 g12 env11 hl11 hm11
                  rintro σ H13 ⟨u11, rfl, env13, hl13⟩
                  -- the same aim written otherwise
                  refine ⟨_, rfl, (by show 1 ≤ PySem.sizeLine; decide), fun i1 hi1 => ⟨(by show 2 ≤ PySem.sizeLine; decide), fun o1 ho1 => ?_⟩⟩
                  refine ⟨_, rfl, (by show 1 ≤ PySem.sizeLine; decide), fun i2 hi2 => ⟨(by show 2 ≤ PySem.sizeLine; decide), fun o2 ho2 => ?_⟩⟩
                  refine ⟨_, rfl, (by show 1 ≤ PySem.sizeLine; decide), fun i3 hi3 => ⟨(by show 3 ≤ PySem.sizeLine; decide), fun o3 ho3 => ?_⟩⟩
                  refine ⟨_, rfl, _, rfl, (by show 2 ≤ PySem.sizeLine; decide), fun i4 hi4 => ⟨(by show 2 ≤ PySem.sizeLine; decide), fun o4 ho4 => ?_⟩⟩
                  refine ⟨_, rfl, _, rfl, (by show 2 ≤ PySem.sizeLine; decide), fun i5 hi5 => ⟨(by show 3 ≤ PySem.sizeLine; decide), fun o5 ho5 => ?_⟩⟩
                  refine ⟨(by show 5 ≤ PySem.sizeLine; decide), fun sl hsl => ?_⟩
                  have s5 := same_new (o := .lst [V.ref o1, V.ref o2, V.ref o3, V.ref o4, V.ref o5]) hsl
                  have s4 := (two_new hi5 ho5).trans s5
                  have s3 := (two_new hi4 ho4).trans s4
                  have s2 := (two_new hi3 ho3).trans s3
                  have s1 := (two_new hi2 ho2).trans s2
                  have s0 := (two_new hi1 ho1).trans s1
                  have env14 := env13.same s0
                  have hl14 := s0 _ _ hl13
                  have wrapped : ∀ x ∈ [V.ref o1, V.ref o2, V.ref o3, V.ref o4, V.ref o5], Alike (upd (upd (upd (upd (upd (upd (upd (upd (upd (upd (upd H13 i1 (.tup [v])) o1 (.tup [V.str "all", V.ref i1])) i2 (.tup [v])) o2 (.tup [V.str "some", V.ref i2])) i3 (.tup [v])) o3 (.tup [V.str "least", V.int 1, V.ref i3])) i4 (.tup [v, v])) o4 (.tup [V.str "all", V.ref i4])) i5 (.tup [v, v])) o5 (.tup [V.str "least", V.int 2, V.ref i5])) sl (.lst [V.ref o1, V.ref o2, V.ref o3, V.ref o4, V.ref o5])) bs.length x φ := by
                    have w1 := env14.aim
                    intro x hx
                    simp only [List.mem_cons, List.not_mem_nil, or_false] at hx
                    rcases hx with rfl | rfl | rfl | rfl | rfl
                    · exact alike_one .all (two_at ho1 s1) trivial w1 s40 one_all
                    · exact alike_one .some (two_at ho2 s2) trivial w1 s40 one_some
                    · exact alike_one (.least 1) (two_at ho3 s3) ⟨by decide, by decide⟩ w1 s40 one_least
                    · exact alike_two .all (two_at ho4 s4) trivial w1 s40 two_all
                    · exact alike_two (.least 2) (two_at ho5 s5) ⟨by decide, by decide⟩ w1 s40 two_least
                  have hs14 : upd (upd (upd (upd (upd (upd (upd (upd (upd (upd (upd H13 i1 (.tup [v])) o1 (.tup [V.str "all", V.ref i1])) i2 (.tup [v])) o2 (.tup [V.str "some", V.ref i2])) i3 (.tup [v])) o3 (.tup [V.str "least", V.int 1, V.ref i3])) i4 (.tup [v, v])) o4 (.tup [V.str "all", V.ref i4])) i5 (.tup [v, v])) o5 (.tup [V.str "least", V.int 2, V.ref i5])) sl (.lst [V.ref o1, V.ref o2, V.ref o3, V.ref o4, V.ref o5]) sl = some (.lst [V.ref o1, V.ref o2, V.ref o3, V.ref o4, V.ref o5]) := upd_same
                  clear s0 s1 s2 s3 s4 s5 hi1 hi2 hi3 hi4 hi5 ho1 ho2 ho3 ho4 ho5 hsl env13 hl13
                  generalize upd (upd (upd (upd (upd (upd (upd (upd (upd (upd (upd H13 i1 (.tup [v])) o1 (.tup [V.str "all", V.ref i1])) i2 (.tup [v])) o2 (.tup [V.str "some", V.ref i2])) i3 (.tup [v])) o3 (.tup [V.str "least", V.int 1, V.ref i3])) i4 (.tup [v, v])) o4 (.tup [V.str "all", V.ref i4])) i5 (.tup [v, v])) o5 (.tup [V.str "least", V.int 2, V.ref i5])) sl (.lst [V.ref o1, V.ref o2, V.ref o3, V.ref o4, V.ref o5]) = H14 at env14 hl14 wrapped hs14
                  generalize [V.ref o1, V.ref o2, V.ref o3, V.ref o4, V.ref o5] = five at wrapped hs14
                  refine ⟨sl, rfl, ⟨_, SqL.of hs14⟩, ?_⟩
                  refine for_list (K := K) (a := sl) (xs := five) (fun i σ H15 => ∃ u11, σ = [some (.ref a), some (.ref tp), some (.int m), some (.ref h), u4, some v, some (.ref ip), some (.int (0 + (i9 : Int))), some (.ref lp), some (.ref mp), some (.bl due), u11, u12] ∧ Env K tp l h bs v sv φ ip xs ys H15 ∧ H15 lp = some (.tup (ns.map V.int)) ∧ Same H14 H15)
                    ⟨_, rfl, env14, hl14, Same.refl H14⟩ (fun i σ H15 _ ⟨_, _, _, _, g⟩ => SqL.of (g _ _ hs14)) ?_ ?_
                  · rintro i x σ H15 hx ⟨u11', rfl, env15, hl15, g15⟩
                    obtain ⟨s', φ', hA', b', ew⟩ := (wrapped x (List.mem_of_getElem? hx)).same g15
                    refine ⟨_, rfl, _, rfl, _, rfl, h, x, lp, rfl, bs, 5, s', φ', ns, env15.hall, hA', by decide, b', by omega, by omega, hl15, lot.in_, lot.up, lot.len, fun H16 g16 => ?_⟩
                    refine ⟨_, rfl, rfl, _, rfl, ?_⟩
                    exact iteN (nt (bl_ne _ _ ((ew _).trans hdue))) ⟨_, rfl, env15.same g16, g16 _ _ hl15, g15.trans g16⟩
                  · rintro σ H15 ⟨u11', rfl, env15, hl15, g15⟩
                    clear g15 wrapped hs14 hl14 env14
                    -- least 0; least beyond
                    have lw : (ys.map fun y => y.2 fun n => decide (n ∈ ns)).length = xs.length := by rw [List.length_map, el]
                    refine ⟨_, rfl, _, rfl, (by show 3 ≤ PySem.sizeLine; decide), fun o ho => ⟨_, rfl, ?_⟩⟩
                    obtain ⟨e15', w15'⟩ := env15.part (.least 0) ho ⟨by decide, by decide⟩ (by omega)
                    have l15' := same_new (o := .tup ((AKind.least 0).head ++ [.ref ip])) ho _ _ hl15
                    refine ⟨h, .ref o, lp, rfl, bs, 4, _, _, ns, e15'.hall, w15', by decide, by omega, by omega, by omega, l15', lot.in_, lot.up, lot.len, fun H16 g16 => ?_⟩
                    have env16 := e15'.same g16
                    have hl16 := g16 _ _ l15'
                    refine ⟨_, _, rfl, rfl, _, rfl, ?_⟩
                    refine iteN (nt (bl_isnt _ _ (least_zero _))) ?_
                    refine ⟨_, rfl, _, rfl, ip, _, rfl, .inr (SqT.of env16.inn), _, _, rfl, rfl, _, rfl, (by show 3 ≤ PySem.sizeLine; decide), fun o ho => ⟨_, rfl, ?_⟩⟩
                    obtain ⟨e16', w16'⟩ := env16.part (.least ((xs.length : Int) + 1)) ho ⟨by omega, by omega⟩ (by omega)
                    have l16' := same_new (o := .tup ((AKind.least ((xs.length : Int) + 1)).head ++ [.ref ip])) ho _ _ hl16
                    refine ⟨h, .ref o, lp, rfl, bs, 4, _, _, ns, e16'.hall, w16', by decide, by omega, by omega, by omega, l16', lot.in_, lot.up, lot.len, fun H17 g17 => ?_⟩
                    have env17 := e16'.same g17
                    have hl17 := g17 _ _ l16'
                    refine ⟨_, rfl, ?_⟩
                    refine iteN (nt (least_over' _ _ lw)) ?_
                    -- least of all
                    refine ⟨_, rfl, _, rfl, ip, _, rfl, .inr (SqT.of env17.inn), _, rfl, (by show 3 ≤ PySem.sizeLine; decide), fun o ho => ⟨_, rfl, ?_⟩⟩
                    obtain ⟨e17', w17'⟩ := env17.part (.least (xs.length : Int)) ho ⟨by omega, by omega⟩ (by omega)
                    have l17' := same_new (o := .tup ((AKind.least (xs.length : Int)).head ++ [.ref ip])) ho _ _ hl17
                    refine ⟨h, .ref o, lp, rfl, bs, 4, _, _, ns, e17'.hall, w17', by decide, by omega, by omega, by omega, l17', lot.in_, lot.up, lot.len, fun H18 g18 => ?_⟩
                    have env18 := e17'.same g18
                    have hl18 := g18 _ _ l17'
                    refine ⟨_, rfl, _, rfl, (by show 2 ≤ PySem.sizeLine; decide), fun o ho => ⟨_, rfl, ?_⟩⟩
                    obtain ⟨e18', w18'⟩ := env18.part .all ho trivial (by omega)
                    have l18' := same_new (o := .tup (AKind.all.head ++ [.ref ip])) ho _ _ hl18
                    refine ⟨h, .ref o, lp, rfl, bs, 4, _, _, ns, e18'.hall, w18', by decide, by omega, by omega, by omega, l18', lot.in_, lot.up, lot.len, fun H19 g19 => ?_⟩
                    have env19 := e18'.same g19
                    have hl19 := g19 _ _ l18'
                    refine ⟨rfl, _, rfl, ?_⟩
                    refine iteN (nt (bl_ne _ _ (least_len' _ _ lw))) ?_
                    -- least 1
                    refine ⟨_, rfl, ip, _, rfl, .inr (SqT.of env19.inn), _, _, rfl, rfl, _, rfl, ?_⟩
                    refine ite2 (fun _ => ?_) (fun _ => ?_)
                    · refine ⟨_, rfl, _, rfl, (by show 3 ≤ PySem.sizeLine; decide), fun o ho => ⟨_, rfl, ?_⟩⟩
                      obtain ⟨e19', w19'⟩ := env19.part (.least 1) ho ⟨by decide, by decide⟩ (by omega)
                      have l19' := same_new (o := .tup ((AKind.least 1).head ++ [.ref ip])) ho _ _ hl19
                      refine ⟨h, .ref o, lp, rfl, bs, 4, _, _, ns, e19'.hall, w19', by decide, by omega, by omega, by omega, l19', lot.in_, lot.up, lot.len, fun H20 g20 => ?_⟩
                      have env20 := e19'.same g20
                      have hl20 := g20 _ _ l19'
                      refine ⟨_, rfl, _, rfl, (by show 2 ≤ PySem.sizeLine; decide), fun o ho => ⟨_, rfl, ?_⟩⟩
                      obtain ⟨e20', w20'⟩ := env20.part .some ho trivial (by omega)
                      have l20' := same_new (o := .tup (AKind.some.head ++ [.ref ip])) ho _ _ hl20
                      refine ⟨h, .ref o, lp, rfl, bs, 4, _, _, ns, e20'.hall, w20', by decide, by omega, by omega, by omega, l20', lot.in_, lot.up, lot.len, fun H21 g21 => ?_⟩
                      have env21 := e20'.same g21
                      have hl21 := g21 _ _ l20'
                      refine ⟨rfl, _, rfl, ?_⟩
                      exact iteN (nt (bl_ne _ _ (least_one _))) ⟨_, _, _, _, _, _, _, rfl, env21⟩
                    · exact iteF ⟨_, _, _, _, _, _, _, rfl, env19⟩
          · rintro σ H9 ⟨u4, u7, u8, u9, u10, u11, u12, rfl, env9⟩
            have lot0 : LotOk bs.length [] := ⟨fun n hn => absurd hn (List.not_mem_nil), List.Pairwise.nil, Nat.zero_le _⟩
            refine ⟨_, rfl, (by show 0 ≤ PySem.sizeLine; decide), fun i1 hi1 => ⟨(by show 2 ≤ PySem.sizeLine; decide), fun o1 ho1 => ⟨(by show 0 ≤ PySem.sizeLine; decide), fun l1 hl1 => ?_⟩⟩⟩
            have g1 := two_new (o1 := .tup []) (o2 := .tup [V.str "all", V.ref i1]) hi1 ho1
            have g2 := same_new (o := .tup []) hl1
            have env10 := env9.same (g1.trans g2)
            refine ⟨h, .ref o1, l1, rfl, bs, 1, _, _, [], env10.hall, wrap (d := 0) (ys := []) .all (two_at ho1 g2).1 (two_at ho1 g2).2 trivial (Nat.zero_le _) .nil, by decide, by decide, by omega, by omega, upd_same, lot0.in_, lot0.up, lot0.len, fun H11 g11 => ?_⟩
            have env11 := env10.same g11
            refine ⟨_, _, rfl, rfl, _, rfl, ?_⟩
            refine iteN (nt rfl) ?_
            refine ⟨_, rfl, (by show 0 ≤ PySem.sizeLine; decide), fun i2 hi2 => ⟨(by show 2 ≤ PySem.sizeLine; decide), fun o2 ho2 => ?_⟩⟩
            refine ⟨_, rfl, _, rfl, RgOk.of_le (by omega) (by omega) (by omega) (by omega), fun q2 hq2 => ?_⟩
            have g3 := two_new (o1 := .tup []) (o2 := .tup [V.str "some", V.ref i2]) hi2 ho2
            have g4 := same_new (o := .tup (rgV 0 (m : Int))) hq2
            have env12 := env11.same (g3.trans g4)
            have lotA : LotOk bs.length (allN m) := by
              rw [lbs]
              exact lot_all (by omega)
            refine ⟨h, .ref o2, q2, rfl, bs, 1, _, _, allN m, env12.hall, wrap (d := 0) (ys := []) .some (two_at ho2 g4).1 (two_at ho2 g4).2 trivial (Nat.zero_le _) .nil, by decide, by decide, by omega, by omega, by rw [upd_same, rg_all], lotA.in_, lotA.up, lotA.len, fun H13 g13 => ?_⟩
            have env13 := env12.same g13
            refine ⟨_, _, rfl, rfl, _, rfl, ?_⟩
            exact iteN (nt rfl) ⟨_, _, _, _, _, _, _, _, _, rfl, env13.tape, env13.hall⟩
      · rintro σ H4 ⟨v4, v5, v6, v7, v8, v9, v10, v11, v12, rfl, t4, hh4⟩
        exact q H4
end
end K16
namespace K16
open PySem L2 Nm
theorem all_mk {l : PySem.W.OpenLaw} {w : World} {K : PySem.W.Frag} {h : Heap} {mg : Str → Option Value} {fa CHall f1 f2 f3 f4 f5 f6 f7 f8 f9 f10 f11 f12 f13 f14 f15 f16 f17 f18 f19 f20 f21 f22 f23 f24 f25 f26 f27 : Addr} (X : K.In h) (G : h.Ns mainGlobals mg) (hfa : mg "law" = some (.ref fa))
    {od1 an1 od2 an2 od3 an3 od4 an4 od5 an5 od6 an6 od7 an7 od8 an8 od9 an9 od10 an10 od11 an11 od12 an12 od13 an13 od14 an14 od15 an15 od16 an16 od17 an17 od18 an18 od19 an19 od20 an20 od21 an21 od22 an22 od23 an23 od24 an24 od25 an25 od26 an26 od27 an27 : Option Addr} {sl1 sl2 sl3 sl4 sl5 sl6 sl7 sl8 sl9 sl10 sl11 sl12 sl13 sl14 sl15 sl16 sl17 sl18 sl19 sl20 sl21 sl22 sl23 sl24 sl25 sl26 sl27 : Array (Option Value)} {oc1 kV1 dc1 pm1 cd1 ct1 oc2 kV2 dc2 pm2 cd2 ct2 oc3 kV3 dc3 pm3 cd3 ct3 oc4 kV4 dc4 pm4 cd4 ct4 oc5 kV5 dc5 pm5 cd5 ct5 oc6 kV6 dc6 pm6 cd6 ct6 oc7 kV7 dc7 pm7 cd7 ct7 oc8 kV8 dc8 pm8 cd8 ct8 oc9 kV9 dc9 pm9 cd9 ct9 oc10 kV10 dc10 pm10 cd10 ct10 oc11 kV11 dc11 pm11 cd11 ct11 oc12 kV12 dc12 pm12 cd12 ct12 oc13 kV13 dc13 pm13 cd13 ct13 oc14 kV14 dc14 pm14 cd14 ct14 oc15 kV15 dc15 pm15 cd15 ct15 oc16 kV16 dc16 pm16 cd16 ct16 oc17 kV17 dc17 pm17 cd17 ct17 oc18 kV18 dc18 pm18 cd18 ct18 oc19 kV19 dc19 pm19 cd19 ct19 oc20 kV20 dc20 pm20 cd20 ct20 oc21 kV21 dc21 pm21 cd21 ct21 oc22 kV22 dc22 pm22 cd22 ct22 oc23 kV23 dc23 pm23 cd23 ct23 oc24 kV24 dc24 pm24 cd24 ct24 oc25 kV25 dc25 pm25 cd25 ct25 oc26 kV26 dc26 pm26 cd26 ct26 oc27 kV27 dc27 pm27 cd27 ct27 : Value} {tMOST_AIMS tMOST_BEGUN tMOST_BOARDS tMOST_DEEP tMOST_LEAST tMOST_NUMBER tMOST_PARTS : Tok}
    (a_Hall : PySem.W.nsIn K mainGlobals "Hall" = some (some (.ref CHall)))
    (a1 : PySem.W.nsIn K mainGlobals "is_integer" = some (some (.ref f1)))
    (l1 : K.lookup f1 = some ⟨oc1, od1, .func (PySem.W.fnOf "is_integer" "is_integer" (defArgs s_is_integer) (defBody s_is_integer) (defScope s_is_integer) .none kV1 dc1 pm1 an1 cd1 ct1), sl1⟩)
    (c1 : PySem.W.codeIn K cd1 "is_integer" = true)
    (k1 : PySem.W.keepIn K (.ref f1) = true)
    (a2 : PySem.W.nsIn K mainGlobals "is_within" = some (some (.ref f2)))
    (l2 : K.lookup f2 = some ⟨oc2, od2, .func (PySem.W.fnOf "is_within" "is_within" (defArgs s_is_within) (defBody s_is_within) (defScope s_is_within) .none kV2 dc2 pm2 an2 cd2 ct2), sl2⟩)
    (c2 : PySem.W.codeIn K cd2 "is_within" = true)
    (k2 : PySem.W.keepIn K (.ref f2) = true)
    (a3 : PySem.W.nsIn K mainGlobals "is_side" = some (some (.ref f3)))
    (l3 : K.lookup f3 = some ⟨oc3, od3, .func (PySem.W.fnOf "is_side" "is_side" (defArgs s_is_side) (defBody s_is_side) (defScope s_is_side) .none kV3 dc3 pm3 an3 cd3 ct3), sl3⟩)
    (c3 : PySem.W.codeIn K cd3 "is_side" = true)
    (k3 : PySem.W.keepIn K (.ref f3) = true)
    (a4 : PySem.W.nsIn K mainGlobals "is_lettered" = some (some (.ref f4)))
    (l4 : K.lookup f4 = some ⟨oc4, od4, .func (PySem.W.fnOf "is_lettered" "is_lettered" (defArgs s_is_lettered) (defBody s_is_lettered) (defScope s_is_lettered) .none kV4 dc4 pm4 an4 cd4 ct4), sl4⟩)
    (c4 : PySem.W.codeIn K cd4 "is_lettered" = true)
    (k4 : PySem.W.keepIn K (.ref f4) = true)
    (a5 : PySem.W.nsIn K mainGlobals "is_name" = some (some (.ref f5)))
    (l5 : K.lookup f5 = some ⟨oc5, od5, .func (PySem.W.fnOf "is_name" "is_name" (defArgs s_is_name) (defBody s_is_name) (defScope s_is_name) .none kV5 dc5 pm5 an5 cd5 ct5), sl5⟩)
    (c5 : PySem.W.codeIn K cd5 "is_name" = true)
    (k5 : PySem.W.keepIn K (.ref f5) = true)
    (a6 : PySem.W.nsIn K mainGlobals "is_word" = some (some (.ref f6)))
    (l6 : K.lookup f6 = some ⟨oc6, od6, .func (PySem.W.fnOf "is_word" "is_word" (defArgs s_is_word) (defBody s_is_word) (defScope s_is_word) .none kV6 dc6 pm6 an6 cd6 ct6), sl6⟩)
    (c6 : PySem.W.codeIn K cd6 "is_word" = true)
    (k6 : PySem.W.keepIn K (.ref f6) = true)
    (a7 : PySem.W.nsIn K mainGlobals "is_words" = some (some (.ref f7)))
    (l7 : K.lookup f7 = some ⟨oc7, od7, .func (PySem.W.fnOf "is_words" "is_words" (defArgs s_is_words) (defBody s_is_words) (defScope s_is_words) .none kV7 dc7 pm7 an7 cd7 ct7), sl7⟩)
    (c7 : PySem.W.codeIn K cd7 "is_words" = true)
    (k7 : PySem.W.keepIn K (.ref f7) = true)
    (a8 : PySem.W.nsIn K mainGlobals "is_board" = some (some (.ref f8)))
    (l8 : K.lookup f8 = some ⟨oc8, od8, .func (PySem.W.fnOf "is_board" "is_board" (defArgs s_is_board) (defBody s_is_board) (defScope s_is_board) .none kV8 dc8 pm8 an8 cd8 ct8), sl8⟩)
    (c8 : PySem.W.codeIn K cd8 "is_board" = true)
    (k8 : PySem.W.keepIn K (.ref f8) = true)
    (a9 : PySem.W.nsIn K mainGlobals "names_of" = some (some (.ref f9)))
    (l9 : K.lookup f9 = some ⟨oc9, od9, .func (PySem.W.fnOf "names_of" "names_of" (defArgs s_names_of) (defBody s_names_of) (defScope s_names_of) .none kV9 dc9 pm9 an9 cd9 ct9), sl9⟩)
    (c9 : PySem.W.codeIn K cd9 "names_of" = true)
    (k9 : PySem.W.keepIn K (.ref f9) = true)
    (a10 : PySem.W.findIn K (.ref CHall) "__init__" = some (some (.ref f10)))
    (i10 : PySem.W.isFn K (.ref f10) = true)
    (l10 : K.lookup f10 = some ⟨oc10, od10, .func (PySem.W.fnOf "__init__" "Hall.__init__" (defArgs s_Hall___init__) (defBody s_Hall___init__) (defScope s_Hall___init__) .none kV10 dc10 pm10 an10 cd10 ct10), sl10⟩)
    (c10 : PySem.W.codeIn K cd10 "Hall.__init__" = true)
    (k10 : PySem.W.keepIn K (.ref f10) = true)
    (a11 : PySem.W.nsIn K mainGlobals "is_ascending" = some (some (.ref f11)))
    (l11 : K.lookup f11 = some ⟨oc11, od11, .func (PySem.W.fnOf "is_ascending" "is_ascending" (defArgs s_is_ascending) (defBody s_is_ascending) (defScope s_is_ascending) .none kV11 dc11 pm11 an11 cd11 ct11), sl11⟩)
    (c11 : PySem.W.codeIn K cd11 "is_ascending" = true)
    (k11 : PySem.W.keepIn K (.ref f11) = true)
    (a12 : PySem.W.nsIn K mainGlobals "is_lot" = some (some (.ref f12)))
    (l12 : K.lookup f12 = some ⟨oc12, od12, .func (PySem.W.fnOf "is_lot" "is_lot" (defArgs s_is_lot) (defBody s_is_lot) (defScope s_is_lot) .none kV12 dc12 pm12 an12 cd12 ct12), sl12⟩)
    (c12 : PySem.W.codeIn K cd12 "is_lot" = true)
    (k12 : PySem.W.keepIn K (.ref f12) = true)
    (a13 : PySem.W.nsIn K mainGlobals "parts_of" = some (some (.ref f13)))
    (l13 : K.lookup f13 = some ⟨oc13, od13, .func (PySem.W.fnOf "parts_of" "parts_of" (defArgs s_parts_of) (defBody s_parts_of) (defScope s_parts_of) .none kV13 dc13 pm13 an13 cd13 ct13), sl13⟩)
    (c13 : PySem.W.codeIn K cd13 "parts_of" = true)
    (k13 : PySem.W.keepIn K (.ref f13) = true)
    (a14 : PySem.W.nsIn K mainGlobals "size_of" = some (some (.ref f14)))
    (l14 : K.lookup f14 = some ⟨oc14, od14, .func (PySem.W.fnOf "size_of" "size_of" (defArgs s_size_of) (defBody s_size_of) (defScope s_size_of) .none kV14 dc14 pm14 an14 cd14 ct14), sl14⟩)
    (c14 : PySem.W.codeIn K cd14 "size_of" = true)
    (k14 : PySem.W.keepIn K (.ref f14) = true)
    (a15 : PySem.W.nsIn K mainGlobals "is_aim" = some (some (.ref f15)))
    (l15 : K.lookup f15 = some ⟨oc15, od15, .func (PySem.W.fnOf "is_aim" "is_aim" (defArgs s_is_aim) (defBody s_is_aim) (defScope s_is_aim) .none kV15 dc15 pm15 an15 cd15 ct15), sl15⟩)
    (c15 : PySem.W.codeIn K cd15 "is_aim" = true)
    (k15 : PySem.W.keepIn K (.ref f15) = true)
    (a16 : PySem.W.nsIn K mainGlobals "check_aim" = some (some (.ref f16)))
    (l16 : K.lookup f16 = some ⟨oc16, od16, .func (PySem.W.fnOf "check_aim" "check_aim" (defArgs s_check_aim) (defBody s_check_aim) (defScope s_check_aim) .none kV16 dc16 pm16 an16 cd16 ct16), sl16⟩)
    (c16 : PySem.W.codeIn K cd16 "check_aim" = true)
    (k16 : PySem.W.keepIn K (.ref f16) = true)
    (a17 : PySem.W.nsIn K mainGlobals "least_needed" = some (some (.ref f17)))
    (l17 : K.lookup f17 = some ⟨oc17, od17, .func (PySem.W.fnOf "least_needed" "least_needed" (defArgs s_least_needed) (defBody s_least_needed) (defScope s_least_needed) .none kV17 dc17 pm17 an17 cd17 ct17), sl17⟩)
    (c17 : PySem.W.codeIn K cd17 "least_needed" = true)
    (k17 : PySem.W.keepIn K (.ref f17) = true)
    (a18 : PySem.W.nsIn K mainGlobals "cases_with_least" = some (some (.ref f18)))
    (l18 : K.lookup f18 = some ⟨oc18, od18, .func (PySem.W.fnOf "cases_with_least" "cases_with_least" (defArgs s_cases_with_least) (defBody s_cases_with_least) (defScope s_cases_with_least) .none kV18 dc18 pm18 an18 cd18 ct18), sl18⟩)
    (c18 : PySem.W.codeIn K cd18 "cases_with_least" = true)
    (k18 : PySem.W.keepIn K (.ref f18) = true)
    (a19 : PySem.W.nsIn K mainGlobals "aim_cases" = some (some (.ref f19)))
    (l19 : K.lookup f19 = some ⟨oc19, od19, .func (PySem.W.fnOf "aim_cases" "aim_cases" (defArgs s_aim_cases) (defBody s_aim_cases) (defScope s_aim_cases) .none kV19 dc19 pm19 an19 cd19 ct19), sl19⟩)
    (c19 : PySem.W.codeIn K cd19 "aim_cases" = true)
    (k19 : PySem.W.keepIn K (.ref f19) = true)
    (a20 : PySem.W.nsIn K mainGlobals "is_reached" = some (some (.ref f20)))
    (l20 : K.lookup f20 = some ⟨oc20, od20, .func (PySem.W.fnOf "is_reached" "is_reached" (defArgs s_is_reached) (defBody s_is_reached) (defScope s_is_reached) .none kV20 dc20 pm20 an20 cd20 ct20), sl20⟩)
    (c20 : PySem.W.codeIn K cd20 "is_reached" = true)
    (k20 : PySem.W.keepIn K (.ref f20) = true)
    (a21 : PySem.W.nsIn K mainGlobals "reached" = some (some (.ref f21)))
    (l21 : K.lookup f21 = some ⟨oc21, od21, .func (PySem.W.fnOf "reached" "reached" (defArgs s_reached) (defBody s_reached) (defScope s_reached) .none kV21 dc21 pm21 an21 cd21 ct21), sl21⟩)
    (c21 : PySem.W.codeIn K cd21 "reached" = true)
    (k21 : PySem.W.keepIn K (.ref f21) = true)
    (a22 : PySem.W.nsIn K mainGlobals "_law_tape" = some (some (.ref f22)))
    (l22 : K.lookup f22 = some ⟨oc22, od22, .func (PySem.W.fnOf "_law_tape" "_law_tape" (defArgs s__law_tape) (defBody s__law_tape) (defScope s__law_tape) .none kV22 dc22 pm22 an22 cd22 ct22), sl22⟩)
    (c22 : PySem.W.codeIn K cd22 "_law_tape" = true)
    (k22 : PySem.W.keepIn K (.ref f22) = true)
    (a23 : PySem.W.nsIn K mainGlobals "_law_pick" = some (some (.ref f23)))
    (l23 : K.lookup f23 = some ⟨oc23, od23, .func (PySem.W.fnOf "_law_pick" "_law_pick" (defArgs s__law_pick) (defBody s__law_pick) (defScope s__law_pick) .none kV23 dc23 pm23 an23 cd23 ct23), sl23⟩)
    (c23 : PySem.W.codeIn K cd23 "_law_pick" = true)
    (k23 : PySem.W.keepIn K (.ref f23) = true)
    (a24 : PySem.W.nsIn K mainGlobals "_law_flag" = some (some (.ref f24)))
    (l24 : K.lookup f24 = some ⟨oc24, od24, .func (PySem.W.fnOf "_law_flag" "_law_flag" (defArgs s__law_flag) (defBody s__law_flag) (defScope s__law_flag) .none kV24 dc24 pm24 an24 cd24 ct24), sl24⟩)
    (c24 : PySem.W.codeIn K cd24 "_law_flag" = true)
    (k24 : PySem.W.keepIn K (.ref f24) = true)
    (a25 : PySem.W.nsIn K mainGlobals "_law_aim" = some (some (.ref f25)))
    (l25 : K.lookup f25 = some ⟨oc25, od25, .func (PySem.W.fnOf "_law_aim" "_law_aim" (defArgs s__law_aim) (defBody s__law_aim) (defScope s__law_aim) .none kV25 dc25 pm25 an25 cd25 ct25), sl25⟩)
    (c25 : PySem.W.codeIn K cd25 "_law_aim" = true)
    (k25 : PySem.W.keepIn K (.ref f25) = true)
    (a26 : PySem.W.nsIn K mainGlobals "_law_holds" = some (some (.ref f26)))
    (l26 : K.lookup f26 = some ⟨oc26, od26, .func (PySem.W.fnOf "_law_holds" "_law_holds" (defArgs s__law_holds) (defBody s__law_holds) (defScope s__law_holds) .none kV26 dc26 pm26 an26 cd26 ct26), sl26⟩)
    (c26 : PySem.W.codeIn K cd26 "_law_holds" = true)
    (k26 : PySem.W.keepIn K (.ref f26) = true)
    (a27 : PySem.W.nsIn K mainGlobals "law" = some (some (.ref f27)))
    (l27 : K.lookup f27 = some ⟨oc27, od27, .func (PySem.W.fnOf "law" "law" (defArgs s_law) (defBody s_law) (defScope s_law) .none kV27 dc27 pm27 an27 cd27 ct27), sl27⟩)
    (c27 : PySem.W.codeIn K cd27 "law" = true)
    (k27 : PySem.W.keepIn K (.ref f27) = true)
    (pg_Hall : PySem.W.plainGet K CHall Str.empty = true)
    (hd_Hall : PySem.W.hasDictIn K CHall = true)
    (po_Hall : PySem.W.plainOver K CHall = true)
    (sa_Hall : PySem.W.findIn K (.ref CHall) "__setattr__" = some (some (.builtin "object.__setattr__")))
    (mk_Hall : PySem.W.makesIn K CHall = true)
    (kc_Hall : PySem.W.keepIn K (.ref CHall) = true)
    (n_Hall_boards : PySem.W.findIn K (.ref CHall) "boards" = some none)
    (n_Hall_names : PySem.W.findIn K (.ref CHall) "names" = some none)
    (z_all : PySem.W.nsIn K mainGlobals "all" = some none)
    (z_any : PySem.W.nsIn K mainGlobals "any" = some none)
    (z_bool : PySem.W.nsIn K mainGlobals "bool" = some none)
    (z_enumerate : PySem.W.nsIn K mainGlobals "enumerate" = some none)
    (z_int : PySem.W.nsIn K mainGlobals "int" = some none)
    (z_isinstance : PySem.W.nsIn K mainGlobals "isinstance" = some none)
    (z_len : PySem.W.nsIn K mainGlobals "len" = some none)
    (z_list : PySem.W.nsIn K mainGlobals "list" = some none)
    (z_max : PySem.W.nsIn K mainGlobals "max" = some none)
    (z_min : PySem.W.nsIn K mainGlobals "min" = some none)
    (z_range : PySem.W.nsIn K mainGlobals "range" = some none)
    (z_sorted : PySem.W.nsIn K mainGlobals "sorted" = some none)
    (z_str : PySem.W.nsIn K mainGlobals "str" = some none)
    (z_tuple : PySem.W.nsIn K mainGlobals "tuple" = some none)
    (z_zip : PySem.W.nsIn K mainGlobals "zip" = some none)
    (g_MOST_AIMS : PySem.W.nsIn K mainGlobals "MOST_AIMS" = some (some (.int 200 tMOST_AIMS)))
    (g_MOST_BEGUN : PySem.W.nsIn K mainGlobals "MOST_BEGUN" = some (some (.int 20 tMOST_BEGUN)))
    (g_MOST_BOARDS : PySem.W.nsIn K mainGlobals "MOST_BOARDS" = some (some (.int 12 tMOST_BOARDS)))
    (g_MOST_DEEP : PySem.W.nsIn K mainGlobals "MOST_DEEP" = some (some (.int 8 tMOST_DEEP)))
    (g_MOST_LEAST : PySem.W.nsIn K mainGlobals "MOST_LEAST" = some (some (.int 25 tMOST_LEAST)))
    (g_MOST_NUMBER : PySem.W.nsIn K mainGlobals "MOST_NUMBER" = some (some (.int 1000000 tMOST_NUMBER)))
    (g_MOST_PARTS : PySem.W.nsIn K mainGlobals "MOST_PARTS" = some (some (.int 24 tMOST_PARTS))) :
    ∃ fd : FuncData, (∀ (s : Shared) (v : Value), BindsTo s fd ⟨[v], []⟩ [("script", v)]) ∧ ∀ base : Heap, K.In base → base.Ns mainGlobals mg → FnOk l.prog w K mg base CX0 16 fa fd ["script"] (sp_law K) := by
  have e := hfa.symm.trans (PySem.W.mg_of X G a27)
  cases e
  have F1 := fun_mk (st := s_is_integer) l1 c1 k1
  have F2 := fun_mk (st := s_is_within) l2 c2 k2
  have F3 := fun_mk (st := s_is_side) l3 c3 k3
  have F4 := fun_mk (st := s_is_lettered) l4 c4 k4
  have F5 := fun_mk (st := s_is_name) l5 c5 k5
  have F6 := fun_mk (st := s_is_word) l6 c6 k6
  have F7 := fun_mk (st := s_is_words) l7 c7 k7
  have F8 := fun_mk (st := s_is_board) l8 c8 k8
  have F9 := fun_mk (st := s_names_of) l9 c9 k9
  have F10 := fun_mk (st := s_Hall___init__) l10 c10 k10
  have F11 := fun_mk (st := s_is_ascending) l11 c11 k11
  have F12 := fun_mk (st := s_is_lot) l12 c12 k12
  have F13 := fun_mk (st := s_parts_of) l13 c13 k13
  have F14 := fun_mk (st := s_size_of) l14 c14 k14
  have F15 := fun_mk (st := s_is_aim) l15 c15 k15
  have F16 := fun_mk (st := s_check_aim) l16 c16 k16
  have F17 := fun_mk (st := s_least_needed) l17 c17 k17
  have F18 := fun_mk (st := s_cases_with_least) l18 c18 k18
  have F19 := fun_mk (st := s_aim_cases) l19 c19 k19
  have F20 := fun_mk (st := s_is_reached) l20 c20 k20
  have F21 := fun_mk (st := s_reached) l21 c21 k21
  have F22 := fun_mk (st := s__law_tape) l22 c22 k22
  have F23 := fun_mk (st := s__law_pick) l23 c23 k23
  have F24 := fun_mk (st := s__law_flag) l24 c24 k24
  have F25 := fun_mk (st := s__law_aim) l25 c25 k25
  have F26 := fun_mk (st := s__law_holds) l26 c26 k26
  have F27 := fun_mk (st := s_law) l27 c27 k27
  have T : Txt K mg := ⟨⟨_, _, F1, PySem.W.mg_of X G a1⟩,
    ⟨_, _, F2, PySem.W.mg_of X G a2⟩,
    ⟨_, _, F3, PySem.W.mg_of X G a3⟩,
    ⟨_, _, F4, PySem.W.mg_of X G a4⟩,
    ⟨_, _, F5, PySem.W.mg_of X G a5⟩,
    ⟨_, _, F6, PySem.W.mg_of X G a6⟩,
    ⟨_, _, F7, PySem.W.mg_of X G a7⟩,
    ⟨_, _, F8, PySem.W.mg_of X G a8⟩,
    ⟨_, _, F9, PySem.W.mg_of X G a9⟩,
    ⟨_, _, F11, PySem.W.mg_of X G a11⟩,
    ⟨_, _, F12, PySem.W.mg_of X G a12⟩,
    ⟨_, _, F13, PySem.W.mg_of X G a13⟩,
    ⟨_, _, F14, PySem.W.mg_of X G a14⟩,
    ⟨_, _, F15, PySem.W.mg_of X G a15⟩,
    ⟨_, _, F16, PySem.W.mg_of X G a16⟩,
    ⟨_, _, F17, PySem.W.mg_of X G a17⟩,
    ⟨_, _, F18, PySem.W.mg_of X G a18⟩,
    ⟨_, _, F19, PySem.W.mg_of X G a19⟩,
    ⟨_, _, F20, PySem.W.mg_of X G a20⟩,
    ⟨_, _, F21, PySem.W.mg_of X G a21⟩,
    ⟨_, _, F22, PySem.W.mg_of X G a22⟩,
    ⟨_, _, F23, PySem.W.mg_of X G a23⟩,
    ⟨_, _, F24, PySem.W.mg_of X G a24⟩,
    ⟨_, _, F25, PySem.W.mg_of X G a25⟩,
    ⟨_, _, F26, PySem.W.mg_of X G a26⟩,
    ⟨_, _, F27, PySem.W.mg_of X G a27⟩,
    PySem.W.mg_none_of X G z_all,
    PySem.W.mg_none_of X G z_any,
    PySem.W.mg_none_of X G z_bool,
    PySem.W.mg_none_of X G z_enumerate,
    PySem.W.mg_none_of X G z_int,
    PySem.W.mg_none_of X G z_isinstance,
    PySem.W.mg_none_of X G z_len,
    PySem.W.mg_none_of X G z_list,
    PySem.W.mg_none_of X G z_max,
    PySem.W.mg_none_of X G z_min,
    PySem.W.mg_none_of X G z_range,
    PySem.W.mg_none_of X G z_sorted,
    PySem.W.mg_none_of X G z_str,
    PySem.W.mg_none_of X G z_tuple,
    PySem.W.mg_none_of X G z_zip,
    ⟨_, PySem.W.mg_of X G g_MOST_AIMS, ⟨_, rfl⟩⟩,
    ⟨_, PySem.W.mg_of X G g_MOST_BEGUN, ⟨_, rfl⟩⟩,
    ⟨_, PySem.W.mg_of X G g_MOST_BOARDS, ⟨_, rfl⟩⟩,
    ⟨_, PySem.W.mg_of X G g_MOST_DEEP, ⟨_, rfl⟩⟩,
    ⟨_, PySem.W.mg_of X G g_MOST_LEAST, ⟨_, rfl⟩⟩,
    ⟨_, PySem.W.mg_of X G g_MOST_NUMBER, ⟨_, rfl⟩⟩,
    ⟨_, PySem.W.mg_of X G g_MOST_PARTS, ⟨_, rfl⟩⟩,
    ⟨_, _, _, ⟨pg_Hall, hd_Hall, po_Hall, sa_Hall⟩, ⟨mk_Hall, a10, i10, kc_Hall⟩, PySem.W.mg_of X G a_Hall, F10, n_Hall_boards, n_Hall_names⟩⟩
  exact ⟨PySem.W.fnOf "law" "law" (defArgs s_law) (defBody s_law) (defScope s_law) .none kV27 dc27 pm27 an27 cd27 ct27, fun s v => .of_eq rfl, fun base _ _ => ok_law F27 T⟩
theorem walk {l : PySem.W.OpenLaw} {q : Program} {loose : List Str} {XP : (Str → Option Value) → Heap → Prop} {YP : World → Heap → Prop} {d : DefRec} {K : Params → PySem.W.Frag} (hn : l.most = some 63) (hdf : d.params.defaults = [])
    (hY : ∀ (w : World) (h : Heap), YP w h → (K w.params).In h)
    (F : ∀ (w : World) (mg : Str → Option Value) (fa : Addr) (h : Heap), (K w.params).In h → h.Ns mainGlobals mg → mg d.name = some (.ref fa) →
      ∃ fd : FuncData, (∀ (s : Shared) (u : Value), BindsTo s fd ⟨[u], []⟩ [("script", u)]) ∧ ∀ base : Heap, (K w.params).In base → base.Ns mainGlobals mg → FnOk l.prog w (K w.params) mg base CX0 16 fa fd ["script"] (sp_law (K w.params))) :
    PySem.W.WalkO q loose XP YP l.row.toRowW d [] (fun f vs => PySem.call f vs) :=
  L2.walk_of (n := 63) (k := 16) (x := "script") (CX := fun _ => CX0) (sp := fun w => sp_law (K w.params)) hn (by decide) hdf ⟨rfl, by decide, by decide⟩ hY F (fun _ _ a ns hl _ hS => ⟨a, ns, rfl, hS, fun _ => rfl⟩) fun _ _ _ _ _ z => z
end K16
open PySem PySem.W PyProof.Rows
set_option maxRecDepth 100000 in
set_option maxHeartbeats 0 in
theorem PySem.Challenge.cw_untoldgames_k16_whole_what_reaches_an_ai_holds : PySem.Challenge.rw_untoldgames_k16_whole_what_reaches_an_ai.Holds := by
  w_on; o_law; k_head; (case hw => w_witness2)
  k_fill
  refine K16.walk (l := PySem.Challenge.rw_untoldgames_k16_whole_what_reaches_an_ai) rfl rfl (fun w h Y => PySem.W.kIn_of Y) ?F
  case F =>
    intro w mg fa h KX G hmg
    refine' K16.all_mk KX G hmg ?a_Hall ?a1 ?l1 ?c1 ?k1 ?a2 ?l2 ?c2 ?k2 ?a3 ?l3 ?c3 ?k3 ?a4 ?l4 ?c4 ?k4 ?a5 ?l5 ?c5 ?k5 ?a6 ?l6 ?c6 ?k6 ?a7 ?l7 ?c7 ?k7 ?a8 ?l8 ?c8 ?k8 ?a9 ?l9 ?c9 ?k9 ?a10 ?i10 ?l10 ?c10 ?k10 ?a11 ?l11 ?c11 ?k11 ?a12 ?l12 ?c12 ?k12 ?a13 ?l13 ?c13 ?k13 ?a14 ?l14 ?c14 ?k14 ?a15 ?l15 ?c15 ?k15 ?a16 ?l16 ?c16 ?k16 ?a17 ?l17 ?c17 ?k17 ?a18 ?l18 ?c18 ?k18 ?a19 ?l19 ?c19 ?k19 ?a20 ?l20 ?c20 ?k20 ?a21 ?l21 ?c21 ?k21 ?a22 ?l22 ?c22 ?k22 ?a23 ?l23 ?c23 ?k23 ?a24 ?l24 ?c24 ?k24 ?a25 ?l25 ?c25 ?k25 ?a26 ?l26 ?c26 ?k26 ?a27 ?l27 ?c27 ?k27 ?pg_Hall ?hd_Hall ?po_Hall ?sa_Hall ?mk_Hall ?kc_Hall ?n_Hall_boards ?n_Hall_names ?z_all ?z_any ?z_bool ?z_enumerate ?z_int ?z_isinstance ?z_len ?z_list ?z_max ?z_min ?z_range ?z_sorted ?z_str ?z_tuple ?z_zip ?g_MOST_AIMS ?g_MOST_BEGUN ?g_MOST_BOARDS ?g_MOST_DEEP ?g_MOST_LEAST ?g_MOST_NUMBER ?g_MOST_PARTS
    (case a_Hall => k_is)
    (case a1 => k_is)
    (case l1 => k_is)
    (case c1 => k_is)
    (case k1 => k_is)
    (case a2 => k_is)
    (case l2 => k_is)
    (case c2 => k_is)
    (case k2 => k_is)
    (case a3 => k_is)
    (case l3 => k_is)
    (case c3 => k_is)
    (case k3 => k_is)
    (case a4 => k_is)
    (case l4 => k_is)
    (case c4 => k_is)
    (case k4 => k_is)
    (case a5 => k_is)
    (case l5 => k_is)
    (case c5 => k_is)
    (case k5 => k_is)
    (case a6 => k_is)
    (case l6 => k_is)
    (case c6 => k_is)
    (case k6 => k_is)
    (case a7 => k_is)
    (case l7 => k_is)
    (case c7 => k_is)
    (case k7 => k_is)
    (case a8 => k_is)
    (case l8 => k_is)
    (case c8 => k_is)
    (case k8 => k_is)
    (case a9 => k_is)
    (case l9 => k_is)
    (case c9 => k_is)
    (case k9 => k_is)
    (case a10 => k_is)
    (case i10 => k_is)
    (case l10 => k_is)
    (case c10 => k_is)
    (case k10 => k_is)
    (case a11 => k_is)
    (case l11 => k_is)
    (case c11 => k_is)
    (case k11 => k_is)
    (case a12 => k_is)
    (case l12 => k_is)
    (case c12 => k_is)
    (case k12 => k_is)
    (case a13 => k_is)
    (case l13 => k_is)
    (case c13 => k_is)
    (case k13 => k_is)
    (case a14 => k_is)
    (case l14 => k_is)
    (case c14 => k_is)
    (case k14 => k_is)
    (case a15 => k_is)
    (case l15 => k_is)
    (case c15 => k_is)
    (case k15 => k_is)
    (case a16 => k_is)
    (case l16 => k_is)
    (case c16 => k_is)
    (case k16 => k_is)
    (case a17 => k_is)
    (case l17 => k_is)
    (case c17 => k_is)
    (case k17 => k_is)
    (case a18 => k_is)
    (case l18 => k_is)
    (case c18 => k_is)
    (case k18 => k_is)
    (case a19 => k_is)
    (case l19 => k_is)
    (case c19 => k_is)
    (case k19 => k_is)
    (case a20 => k_is)
    (case l20 => k_is)
    (case c20 => k_is)
    (case k20 => k_is)
    (case a21 => k_is)
    (case l21 => k_is)
    (case c21 => k_is)
    (case k21 => k_is)
    (case a22 => k_is)
    (case l22 => k_is)
    (case c22 => k_is)
    (case k22 => k_is)
    (case a23 => k_is)
    (case l23 => k_is)
    (case c23 => k_is)
    (case k23 => k_is)
    (case a24 => k_is)
    (case l24 => k_is)
    (case c24 => k_is)
    (case k24 => k_is)
    (case a25 => k_is)
    (case l25 => k_is)
    (case c25 => k_is)
    (case k25 => k_is)
    (case a26 => k_is)
    (case l26 => k_is)
    (case c26 => k_is)
    (case k26 => k_is)
    (case a27 => k_is)
    (case l27 => k_is)
    (case c27 => k_is)
    (case k27 => k_is)
    (case pg_Hall => k_is)
    (case hd_Hall => k_is)
    (case po_Hall => k_is)
    (case sa_Hall => k_is)
    (case mk_Hall => k_is)
    (case kc_Hall => k_is)
    (case n_Hall_boards => k_is)
    (case n_Hall_names => k_is)
    (case z_all => k_is)
    (case z_any => k_is)
    (case z_bool => k_is)
    (case z_enumerate => k_is)
    (case z_int => k_is)
    (case z_isinstance => k_is)
    (case z_len => k_is)
    (case z_list => k_is)
    (case z_max => k_is)
    (case z_min => k_is)
    (case z_range => k_is)
    (case z_sorted => k_is)
    (case z_str => k_is)
    (case z_tuple => k_is)
    (case z_zip => k_is)
    (case g_MOST_AIMS => k_is)
    (case g_MOST_BEGUN => k_is)
    (case g_MOST_BOARDS => k_is)
    (case g_MOST_DEEP => k_is)
    (case g_MOST_LEAST => k_is)
    (case g_MOST_NUMBER => k_is)
    (case g_MOST_PARTS => k_is)
#print axioms PySem.Challenge.cw_untoldgames_k16_whole_what_reaches_an_ai_holds
