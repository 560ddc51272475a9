import PyProof.Rows.All
import Wide.All
import OpenK.AllK
import Wide.FinOn
import HandS.ForMost
import HandS.SetBool
import PyProof.Rows.SortShellAny
import KE.GoesMore
import KE.GoesEnum
import HandS.Walk
import HandS.TupMul
import HandS.Codes
import HandS.IsInst
import HandS.Zip
import HandS.SortRule
import HandS.Deep
import KE.LtData
import HandS.TupAny
import HandS.TupLe
import HandS.Conv
import HandS.Steps
import PySem.Challenge.RW_untoldgames_k21_whole_pairs_of_boards
set_option Elab.async false
set_option linter.all false
set_option maxRecDepth 100000
set_option maxHeartbeats 4000000
/-! Sets of texts: what stands there, a text more, a comprehension that makes one, sorted of it. -/
namespace Nm
open PySem PySem.Spec PyProof.Rows L2
section
variable {P : Program} {w : World} {A : Around} {E : Value → Shared → Prop} {s : Shared} {a : Addr} {o : Obj}
/-- the end of an addition: the set is stored, and laid out anew if it is too full -/
theorem tailG {g : Bool → Sem Unit} (hg : ∀ (b : Bool) (z : Shared) (U : Unit → Shared → Prop), U () z → wpAny (model P w) A (g b) U E z)
    {es fs : Array (Int × Value)} {ep : Nat} {t u : SetTable} {dm : Bool} {R : Option Bool → Shared → Prop}
    (ho : s.heap.get? a = some o) (hd : o.data = .set es ep t) (hb : fs.size < scanBound) (hf : u.fits fs.size = true) (hr : Ris u.place.toList)
    (hR : ∀ h' (es' : Array (Int × Value)) (ep' : Nat) (t' : SetTable), Heap.SameBut a s.heap h' → h'.get? a = some { o with data := .set es' ep' t' } → es'.toList.Perm fs.toList → t'.fits es'.size = true →
      Ris t'.place.toList → t'.led = u.led → R (some true) { s with heap := h' }) :
    wpAny (model P w) A (do
        storeSet a fs u
        if (!dm && u.tooFull) = true then do
            g (relayAll u fs (SetTable.grown fs.size)).2.2
            storeSet a (relayAll u fs (SetTable.grown fs.size)).1 (relayAll u fs (SetTable.grown fs.size)).2.1
            pure (some true)
          else pure (some true)) R E s := by
  have at1 := store_at (es' := fs) (t' := u) ho hd
  have same1 := Heap.SameBut.update s.heap a (Obj.putSet fs u)
  refine wpAny_bind (wpAny_storeSet_of ho hd ?_ (fits_of_scanBound hb))
  split
  · have perm := relayAll_perm u fs (SetTable.grown fs.size)
    have fit3 := relayAll_fits u fs (SetTable.grown fs.size)
    have ris3 := relayAll_ris u fs (SetTable.grown fs.size)
    have led3 := relayAll_led u fs (SetTable.grown fs.size)
    generalize relayAll u fs (SetTable.grown fs.size) = Z at perm fit3 ris3 led3 ⊢
    obtain ⟨gs, v, gave⟩ := Z
    dsimp only at perm fit3 ris3 led3 ⊢
    have size3 : gs.size = fs.size := by
      have q := perm.length_eq
      rwa [Array.length_toList, Array.length_toList] at q
    refine wpAny_bind (hg _ _ _ ?_)
    refine wpAny_bind (wpAny_storeSet_of at1 rfl ?_ (fits_of_scanBound (by rw [size3]; exact hb)))
    have at3 := store_at (es' := gs) (t' := v) at1 rfl
    exact wpAny_pure (hR _ gs _ v (same1.trans (Heap.SameBut.update _ a _)) at3 perm fit3 ris3 led3)
  · exact wpAny_pure (hR _ fs _ u same1 at1 (List.Perm.refl _) hf hr rfl)
/-- a key is added whose hash is known: it is there, or it comes in -/
theorem addG {κ : Type} [DecidableEq κ] {knd : PySem.KeyKind P w κ} {k : κ} {x : Value} {es : Array (Int × Value)} {ep : Nat} {t : SetTable} {Q : Bool → Shared → Prop}
    (hk : knd.is k x = true) (hx : x.scannable = true) (ho : s.heap.get? a = some o) (hd : o.data = .set es ep t) (hel : ElemsOf knd es.toList) (hb : es.size + 1 < scanBound) (hf : t.fits es.size = true) (hr : Ris t.place.toList)
    (old : (∃ e ∈ es.toList, knd.is k e.2 = true) → Q false s)
    (new : (∀ e ∈ es.toList, knd.is k e.2 = false) → ∀ h' (es' : Array (Int × Value)) (ep' : Nat) (t' : SetTable), Heap.SameBut a s.heap h' → h'.get? a = some { o with data := .set es' ep' t' } →
      es'.toList.Perm ((knd.hash k, x) :: es.toList) → t'.fits es'.size = true → Ris t'.place.toList → t'.led = t.led → Q true { s with heap := h' }) :
    wpAny (model P w) A (setAddHashed a x (knd.hash k)) Q E s := by
  unfold setAddHashed setAddHashedIn
  refine wpAny_holding (wpAny_bind (wpAny_setState_of ho hd hf ?_))
  dsimp only
  rw [byScan_of hx (Nat.lt_of_succ_lt hb) hel]
  simp only [↓reduceIte]
  unfold setAddByScan
  refine wpAny_bind (wpAny_bind (wpAny_rule ?_))
  refine wpAny_bind (wpAny_setScan_of hk ho hd hf hel ?_)
  cases met : List.findIdx? (fun e => knd.is k e.2) es.toList with
  | some j =>
    dsimp only
    obtain ⟨hj, pj, _⟩ := List.findIdx?_eq_some_iff_getElem.mp met
    exact wpAny_pure (wpAny_pure (old ⟨_, List.getElem_mem hj, pj⟩))
  | none =>
    dsimp only
    have no : ∀ e ∈ es.toList, knd.is k e.2 = false := fun e he => List.findIdx?_eq_none_iff.mp met e he
    have gw : ∀ (b : Bool) {z : Shared} {U : Unit → Shared → Prop}, U () z → wpAny (model P w) A (match b with | true => rule "set.scan.the-table-gave-way" | false => pure ()) U E z := fun b z U q => by
      cases b
      · exact wpAny_pure q
      · exact wpAny_rule q
    have perm := layNew_perm t es (knd.hash k) x
    have fit1 := layNew_fits t es (knd.hash k) x
    have ris1 := layNew_ris t es (knd.hash k) x hr
    have led1 := layNew_led t es (knd.hash k) x
    generalize layNew t es (knd.hash k) x = Z at perm fit1 ris1 led1 ⊢
    obtain ⟨fs, u, dm, gave⟩ := Z
    dsimp only at perm fit1 ris1 led1 ⊢
    rw [Array.toList_push] at perm
    have pc : fs.toList.Perm ((knd.hash k, x) :: es.toList) := perm.trans (List.perm_append_singleton _ _)
    have size1 : fs.size < scanBound := by
      have q := pc.length_eq
      rw [List.length_cons, Array.length_toList, Array.length_toList] at q
      omega
    have fin : ∀ (u' : SetTable), u'.led = u.led → ∀ h' (es' : Array (Int × Value)) (ep' : Nat) (t' : SetTable), Heap.SameBut a s.heap h' → h'.get? a = some { o with data := .set es' ep' t' } → es'.toList.Perm fs.toList →
        t'.fits es'.size = true → Ris t'.place.toList → t'.led = u'.led → Q true { s with heap := h' } := fun u' e h' es' ep' t' sb g p f r l =>
      new no h' es' ep' t' sb g (p.trans pc) f r (l.trans (e.trans led1))
    refine wpAny_bind (gw _ ?_)
    split
    · refine wpAny_bind ?_
      rw [hashByValue_scannable 8 hx]
      refine wpAny_pure ?_
      refine tailG ?_ ho hd size1 ?_ ?_ ?_
      · intro b z U q
        cases b
        · exact wpAny_pure q
        · exact wpAny_rule q
      · first
          | exact fit1
          | (split <;> first | exact fit1 | exact SetTable.fits_plain_off fit1)
      · first
          | exact ris1
          | (split <;> exact ris1)
      · intro h' es' ep' t' sb g p f r l
        dsimp only
        refine wpAny_pure (fin _ ?_ h' es' ep' t' sb g p f r l)
        first
          | rfl
          | (split <;> rfl)
    · refine wpAny_bind (wpAny_pure ?_)
      simp only [↓reduceIte]
      refine tailG ?_ ho hd size1 fit1 ris1 ?_
      · intro b z U q
        cases b
        · exact wpAny_pure q
        · exact wpAny_rule q
      · intro h' es' ep' t' sb g p f r l
        dsimp only
        exact wpAny_pure (fin u rfl h' es' ep' t' sb g p f r l)
end
/-! ### a set of texts -/
def nm (e : Int × Value) : Str := match e.2 with | .str x _ => x | _ => Str.empty
def Tx (w : World) (e : Int × Value) : Prop := ∃ x t, e.2 = Value.str x t ∧ e.1 = hashStr w x
/-- the set at a has just the texts ks, each once -/
def Has (w : World) (h : Heap) (a : Addr) (ks : List Str) : Prop :=
  ∃ o es ep t, h.get? a = some o ∧ o.ExactSet ∧ o.data = .set es ep t ∧ (∀ e ∈ es.toList, Tx w e) ∧ (es.toList.map nm).Perm ks ∧ ks.Nodup ∧ ks.length < scanBound ∧ t.fits es.size = true ∧ Ris t.place.toList ∧
    (w.params.followText "set-order" = true ∨ t.led = true)
def plus (ks : List Str) (k : Str) : List Str := if k ∈ ks then ks else k :: ks
section
variable {P : Program} {w : World} {A : Around} {E : Value → Shared → Prop} {s : Shared} {a : Addr} {ks : List Str} {h h' : Heap}
theorem Has.at (R : Has w h a ks) (k : ∀ o, h.get? a = some o → h'.get? a = some o) : Has w h' a ks := by
  obtain ⟨o, es, ep, t, ho, r⟩ := R
  exact ⟨o, es, ep, t, k o ho, r⟩
theorem tx_elems {l : List (Int × Value)} (g : ∀ e ∈ l, Tx w e) : ElemsOf (strKind P w) l := fun e he => by
  obtain ⟨x, t, e1, e2⟩ := g e he
  refine ⟨⟨x, ?_, e2⟩, ?_⟩
  · rw [e1]
    exact strKind_is P w x t
  · rw [e1]
    rfl
theorem tx_is {e : Int × Value} (g : Tx w e) (k : Str) : (strKind P w).is k e.2 = true ↔ nm e = k := by
  obtain ⟨x, t, e1, _⟩ := g
  have n : nm e = x := by unfold nm; rw [e1]
  rw [n, e1]
  constructor
  · intro q
    exact (strKind P w).inj _ _ _ (strKind_is P w x t) q
  · intro q
    subst q
    exact strKind_is P w x t
theorem size_of {es : Array (Int × Value)} (p : (es.toList.map nm).Perm ks) : es.size = ks.length := by
  have q := p.length_eq
  rwa [List.length_map, Array.length_toList] at q
/-- one text more -/
theorem add_raw {k : Str} {tk : Tok} {Q : Value → Shared → Prop} (R : Has w s.heap a ks) (room : ks.length + 1 < scanBound)
    (hQ : ∀ h', Heap.SameBut a s.heap h' → Has w h' a (plus ks k) → Q .none { s with heap := h', toks := s.toks + 1 }) :
    wpAny (model P w) A (call (.builtin "set.add") [.ref a, .str k tk]) Q E s := by
  obtain ⟨o, es, ep, t, ho, hex, hd, g, pm, nd, hb, hf, hr, hl⟩ := R
  have hsz := size_of pm
  have hS : s.TypeIs (.ref a) "set" := ⟨o, ho, hex.1⟩
  refine wpAny_call_entry F.slot_set_add hS F.entry_set_add ?_ (F.args_set_add_2 _ _)
  unfold Builtin.«set.add» Builtin.Frozenset.oneOther
  simp only [List.isEmpty_nil, bind_assoc]
  unfold Builtin.Frozenset.addrOf setAdd
  refine wpAny_bind (wpAny_pure ?_)
  try dsimp only
  refine wpAny_bind (wpAny_pure ?_)
  try dsimp only
  refine wpAny_bind (wpAny_holding (wpAny_bind ((strKind P w).pyHash (strKind_is P w k tk) ?_)))
  have mem : (∃ e ∈ es.toList, (strKind P w).is k e.2 = true) ↔ k ∈ ks := by
    rw [← pm.mem_iff, List.mem_map]
    exact ⟨fun ⟨e, he, q⟩ => ⟨e, he, (tx_is (g e he) k).1 q⟩, fun ⟨e, he, q⟩ => ⟨e, he, (tx_is (g e he) k).2 q⟩⟩
  refine addG (knd := strKind P w) (s := { s with toks := s.toks + 1 }) (strKind_is P w k tk) rfl ho hd (tx_elems g) (by rw [hsz]; exact room) hf hr ?_ ?_
  · intro there
    have hk : k ∈ ks := mem.1 there
    have ek : plus ks k = ks := if_pos hk
    refine wpAny_pure ⟨_, rfl, hQ s.heap (Heap.SameBut.refl a s.heap) ?_⟩
    rw [ek]
    exact ⟨o, es, ep, t, ho, hex, hd, g, pm, nd, hb, hf, hr, hl⟩
  · intro no h' es' ep' t' sb ho' p f r l
    have hk : k ∉ ks := fun z => by
      obtain ⟨e, he, q⟩ := mem.2 z
      rw [no e he] at q
      cases q
    have ek : plus ks k = k :: ks := if_neg hk
    refine wpAny_pure ⟨_, rfl, hQ h' sb ?_⟩
    rw [ek]
    refine ⟨_, es', ep', t', ho', hex, rfl, fun e he => ?_, ?_, List.nodup_cons.mpr ⟨hk, nd⟩, room, f, r, hl.imp id fun z => l.trans z⟩
    · rcases List.mem_cons.mp (p.mem_iff.mp he) with z | z
      · rw [z]
        exact ⟨k, tk, rfl, rfl⟩
      · exact g e z
    · exact (p.map nm).trans (pm.cons k)
theorem has_fresh {h : Heap} (w : World) : Has w (h.push { cls := .type "set", dict := none, data := .set #[] 0 (.fresh 0 0 (!w.params.followText "set-order")) }) h.objs.size [] := by
  refine ⟨_, #[], 0, _, Heap.get?_push_size _ rfl, ⟨rfl, rfl, rfl⟩, rfl, (fun e he => by simp at he), List.Perm.refl _, List.nodup_nil, by decide, by rfl, List.Pairwise.nil, ?_⟩
  show _ ∨ (!w.params.followText "set-order") = true
  cases w.params.followText "set-order" with
  | false => exact .inr rfl
  | true => exact .inl rfl
end
/-- a set of texts as a tracked thing -/
def TxO (w : World) (a : Addr) (ks : List Str) : HO := .ext fun h => Has w h a ks
theorem txO_new {w : World} {P : Program} {H : Hp} {h : Heap} {a : Addr} {ks : List Str} (R : Has w h a ks) : ObjOk P w H h a (TxO w a ks) := by
  have ⟨o, _, _, _, ho, _⟩ := R
  exact ⟨R, ⟨o, ho⟩, fun h1 h2 p k => Has.at p k⟩
section
variable {X : Cx}
theorem txO_get {pins : List (Addr × Obj)} {σ : L2.St} {H : Hp} {s : Shared} {a : Addr} {ks : List Str} (I : Inv X pins σ H s) (ha : H a = some (TxO X.w a ks)) : Has X.w s.heap a ks := (I.hok a _ ha).1
theorem add_ok {pins : List (Addr × Obj)} {σ : L2.St} {H : Hp} {s : Shared} {E : Value → Shared → Prop} {D : Addr} {ks : List Str} {k : Str} {tk : Tok} {Q : Value → Shared → Prop} (I : Inv X pins σ H s) (hD : H D = some (TxO X.w D ks)) (room : ks.length + 1 < scanBound)
    (q : ∀ s', Inv X pins σ (upd H D (TxO X.w D (plus ks k))) s' → Q .none s') : wpAny (model X.prog X.w) X.A (call (.builtin "set.add") [.ref D, .str k tk]) Q E s := by
  refine add_raw (txO_get I hD) room fun h' sb new => ?_
  have there : ∃ u, h'.get? D = some u := by
    obtain ⟨o, _, _, _, ho, _⟩ := new
    exact ⟨o, ho⟩
  exact q _ (I.write (e := D) (t' := s.toks + 1) (by rw [hD]; trivial) (.inl rfl) (fun b u hb hu => (sb.2 b hb).trans hu) there (txO_new new))
/-! ### sorted of it -/
def rSortTx (w : World) : List V → Hp → VK → Prop := fun vs H Q => ∃ (a : Addr) (ks : List Str), vs = [V.ref a] ∧ H a = some (TxO w a ks) ∧ ks.length < 64 ∧
  ∀ (ys : List Str) (p : Addr), ys.Perm ks → sortedS ys = true → H p = none → Q (.ref p) (upd H p (.lst (ys.map V.str)))
end
/-- all of them, each once -/
def gathered (xs : List Str) : List Str := xs.foldl plus []
theorem plus_mem {ks : List Str} {k x : Str} : x ∈ plus ks k ↔ x = k ∨ x ∈ ks := by
  unfold plus
  by_cases h : k ∈ ks
  · rw [if_pos h]
    exact ⟨.inr, fun z => z.elim (fun e => e ▸ h) id⟩
  · rw [if_neg h, List.mem_cons]
theorem plus_nd {ks : List Str} {k : Str} (nd : ks.Nodup) : (plus ks k).Nodup := by
  unfold plus
  by_cases h : k ∈ ks
  · rw [if_pos h]
    exact nd
  · rw [if_neg h]
    exact List.nodup_cons.mpr ⟨h, nd⟩
theorem plus_len (ks : List Str) (k : Str) : (plus ks k).length ≤ ks.length + 1 := by
  unfold plus
  by_cases h : k ∈ ks
  · rw [if_pos h]
    exact Nat.le_succ _
  · rw [if_neg h]
    exact Nat.le_refl _
theorem fold_facts : ∀ (xs ks : List Str), ks.Nodup → (xs.foldl plus ks).Nodup ∧ (∀ x, x ∈ xs.foldl plus ks ↔ x ∈ xs ∨ x ∈ ks) ∧ (xs.foldl plus ks).length ≤ ks.length + xs.length
  | [], ks, nd => ⟨nd, fun x => by simp, by simp⟩
  | k :: xs, ks, nd => by
    obtain ⟨h1, h2, h3⟩ := fold_facts xs (plus ks k) (plus_nd nd)
    refine ⟨h1, fun x => ?_, ?_⟩
    · rw [List.foldl_cons, h2 x, plus_mem, List.mem_cons]
      constructor
      · rintro (h | h | h)
        · exact .inl (.inr h)
        · exact .inl (.inl h)
        · exact .inr h
      · rintro ((h | h) | h)
        · exact .inr (.inl h)
        · exact .inl h
        · exact .inr (.inr h)
    · rw [List.foldl_cons, List.length_cons]
      have := plus_len ks k
      omega
theorem gathered_facts (xs : List Str) : (gathered xs).Nodup ∧ (∀ x, x ∈ gathered xs ↔ x ∈ xs) ∧ (gathered xs).length ≤ xs.length := by
  obtain ⟨h1, h2, h3⟩ := fold_facts xs [] List.nodup_nil
  refine ⟨h1, fun x => ?_, ?_⟩
  · show x ∈ xs.foldl plus [] ↔ _
    rw [h2 x]
    simp
  · show (xs.foldl plus []).length ≤ xs.length
    simpa using h3
theorem gathered_snoc (xs : List Str) (k : Str) : gathered (xs ++ [k]) = plus (gathered xs) k := by
  unfold gathered
  rw [List.foldl_append]
  rfl
end Nm
namespace Nm
open PySem PySem.Spec PyProof.Rows L2
section
variable {P : Program} {w : World} {A : Around} {E : Value → Shared → Prop} {s : Shared} {a : Addr}
theorem strs_of : ∀ (l : List Value) (ks : List Str), Paired (fun v k => ∃ t, v = Value.str k t) l ks → StrsAre l ks
  | _, _, .nil => .nil
  | _, _, .cons h r => by
    obtain ⟨t, e⟩ := h
    subst e
    exact .cons _ t (strs_of _ _ r)
def tx (v : Value) : Str := match v with | .str x _ => x | _ => Str.empty
theorem strs_tx : ∀ (l : List Value), (∀ v ∈ l, ∃ x t, v = Value.str x t) → StrsAre l (l.map tx)
  | [], _ => .nil
  | v :: l, h => by
    obtain ⟨x, t, e⟩ := h v List.mem_cons_self
    subst e
    exact .cons x t (strs_tx l fun u hu => h u (List.mem_cons_of_mem _ hu))
theorem sorted_raw {ks : List Str} {Q : Value → Shared → Prop} (R : Has w s.heap a ks) (hh : A.handled = none)
    (hQ : ∀ s' p (out : Array Value) (c : Nat) (ys : List Str), (∀ b o, s.heap.get? b = some o → s'.heap.get? b = some o) → s'.gens = s.gens → s'.os = s.os → s.heap.objs.size ≤ p →
      s'.heap.get? p = some (seqObj "list" out c) → StrsAre out.toList ys → ys.Perm ks → sortedS ys = true → Q (.ref p) s') :
    wpAny (model P w) A (call (.builtin "sorted") [.ref a]) Q E s := by
  obtain ⟨o, es, ep, t, ho, hex, hd, g, pm, nd, hb, hf, hr, hl⟩ := R
  have hsz := size_of pm
  refine Calls.call_function_entry kind_sorted plain_sorted entry_sorted (args_sorted1 _) ?_
  unfold Builtin.«sorted»
  refine wpAny_bind (m := checkCount "sorted" 1 1 _) (wpAny_pure ?_)
  refine wpAny_bind (collect_set (A := A.in1) hh ⟨o, ho, hex.1, hd⟩ hf (by rw [hsz]; exact hb) hr hl fun s1 vs k1 hz g1 o1 q => ?_)
  have len : vs.length ≤ sizeLine := by
    have z : vs.length = es.size := by rw [q.length_eq, List.length_map, Array.length_toList]
    rw [z, hsz]
    exact fits_of_scanBound hb
  have hS : StrsAre vs (vs.map tx) := strs_tx vs fun v hv => by
    obtain ⟨e, he, z⟩ := List.mem_map.mp (q.mem_iff.mp hv)
    obtain ⟨x, tk, h1, _⟩ := g e he
    exact ⟨x, tk, by rw [← z]; exact h1⟩
  have pk : (vs.map tx).Perm ks := by
    have z := q.map tx
    rw [List.map_map] at z
    exact z.trans pm
  refine wpAny_bind (wpAny_newList ?_ len)
  have hoL : (s1.heap.push (seqObj "list" vs.toArray 0)).get? s1.heap.objs.size = some (seqObj "list" vs.toArray 0) := Heap.get?_push_size _ rfl
  refine wpAny_bind (wpAny_holding (wpAny_call_entry slot_list_sort ⟨_, hoL, rfl⟩ entry_list_sort
    (list_sort_treeKAny strKind_oneLt hoL hS.keysOf (fun v₁ v₂ rest e => keyKind_strs (by rw [← e]; exact hS)) len fun st' hp hs => ?_) (args_list_sort _)))
  obtain ⟨ys, b1, b2, b3⟩ := sorted_out_str hS hp hs
  obtain ⟨c, hc⟩ := sortedHeap_at (vs := vs) (out := (arrOf st').map (·.2)) hoL
  refine ⟨_, rfl, wpAny_pure ⟨_, rfl, hQ _ s1.heap.objs.size _ c ys (fun b u e => ?_) g1 o1 hz hc b1 (b2.trans pk) b3⟩⟩
  have z := k1 b u e
  have lt := Heap.lt_size z
  show (sortedHeap (s1.heap.push (seqObj "list" vs.toArray 0)) s1.heap.objs.size vs ((arrOf st').map (·.2))).get? b = some u
  rw [sortedHeap_old (Nat.ne_of_lt lt) (by rw [size_push']; exact Nat.lt_succ_of_lt lt)]
  exact Heap.get?_push_of_some _ z
end
section
variable {X : Cx}
theorem cr_sortTx (hc : X.calm = true) : CallR X (.builtin "sorted") (rSortTx X.w) := by
  intro pins s σ H vs us Q I r h
  obtain ⟨a, ks, rfl, ha, h64, q⟩ := h
  rw [Vals.ref1 r]
  refine sorted_raw (txO_get I ha) (I.ok.hd hc) fun s' p out c ys k g o hp hg hS pm so => ?_
  have len : (ys.map V.str).length ≤ sizeLine := by
    rw [List.length_map, pm.length_eq]
    exact small64 h64
  have hn : H p = none := I.hok.fresh hp
  have J : Inv X pins σ (upd H p (.lst (ys.map V.str))) { s with heap := s'.heap, gens := s'.gens, drawn := s'.drawn, toks := s'.toks } :=
    I.call (ch := []) (Un.laid k hp hn) (I.hok.laid k hp ⟨len, out.toList, c, vals_of_strs hS, hg⟩) (by rw [g]; exact I.bare) (fun _ z => nomatch z)
  have e : s' = { s with heap := s'.heap, gens := s'.gens, drawn := s'.drawn, toks := s'.toks } := by
    cases s'
    cases s
    cases o
    rfl
  rw [e]
  exact ⟨.ref p, _, J, rfl, q ys p pm so hn⟩
end
end Nm
namespace Nm
open PySem PySem.Spec PyProof.Rows L2
section
variable {X : Cx}
/-- what a set display by a walk asks, its element being a text -/
def tNm (w : World) (wi : TI) (g : TG) (te : TE) (vs : List Nat) : TE := fun σ H Q => wi σ H fun J H1 => ∀ D, H1 D = none → ∃ W : Nat → Nat → Hp → Prop,
  (∃ m, W 0 m (upd H1 D (TxO w D []))) ∧ ∀ i m H, W i m H → (J.stop i H ∧ Q (.ref D) H) ∨ (J.go i H ∧ ∃ Nx : Hp → Prop, (∀ H', Nx H' → ∃ m', m' < m ∧ W (i + 1) m' H') ∧
    ∀ x H', J.yld i H x H' → g x (wipe σ vs) H' fun σ2 H2 => wipe σ2 vs = wipe σ vs ∧ te σ2 H2 fun y H4 =>
      ∃ (c : Str) (ks : List Str), y = .str c ∧ H4 D = some (TxO w D ks) ∧ ks.length + 1 < scanBound ∧ Nx (upd H4 D (TxO w D (plus ks c))))
/-- a new set as the model makes it -/
abbrev setObj (X : Cx) : Obj := { cls := .type "set", dict := none, data := .set #[] 0 (.fresh 0 0 (!X.w.params.followText "set-order")) }
theorem pe_nm {elt tg iter : Expr} {scope : Scope} {own : List (PySem.Str × Nat)} {pos : Pos} {wi : TI} {g : TG} {te : TE} (hc : X.calm = true) (hN : X.N.Nodup) (hi : PI X tg iter wi) (ok : BlkOk X.N X.env.scope scope own)
    (hg : ∀ (s : Shared) (H : Hp) (C : Addr) (cl : List (PySem.Str × Addr)) (fp : List Addr), PG (X.blk s H scope (compEnvC scope cl C X.env) fp) tg g)
    (he : ∀ (s : Shared) (H : Hp) (C : Addr) (cl : List (PySem.Str × Addr)) (fp : List Addr), PE (X.blk s H scope (compEnvC scope cl C X.env) fp) elt te)
    (hs : ∀ x, foldedSetIterable iter X.env x = pure x := by intro _; rfl) : PE X (.SetComp elt [⟨tg, iter, [], 0⟩] scope pos) (tNm X.w wi g te (own.map (·.2))) := by
  refine ⟨fun pins s σ H Q I h => ?_⟩
  rw [PpSet.eval_SetComp]
  have closed : ∀ y ∈ scope.names, y.2 = .free → ∃ c, X.env.cells.lookup y.1 = some c := fun y hy e => (ok.free y hy e).elim (fun k => I.ok.has _ (.inl k)) fun k => I.ok.has _ (.inr k)
  refine wpAny_comprehension_free (use := none) rfl hs (closure_ok closed) ok.kind (fun y hy e => by rw [ok.uniq y hy, e]) (thn (hi.run pins s σ H _ I h) fun xv s1 hx => thn hx fun itv s2 h2 => ?_)
  obtain ⟨it, fp, tn, J, H2, e, I2, T, st2, f2, q⟩ := h2
  subst e
  refine PpSet.newSet_ok (newEnv_comp ?_)
  generalize hD : s2.heap.objs.size = D
  have hDn : H2 D = none := I2.hok.fresh (Nat.le_of_eq hD)
  obtain ⟨W, ⟨m0, w0⟩, turn⟩ := q D hDn
  generalize hs3 : ({ s2 with heap := s2.heap.push (setObj X) } : Shared) = s3
  have h3 : s3.heap = s2.heap.push (setObj X) := by rw [← hs3]
  generalize hH3 : upd H2 D (TxO X.w D []) = H3 at w0
  have I3 : Inv X pins σ H3 s3 := by
    rw [← hs3, ← hH3]
    refine I2.laid (t' := s2.toks) (fun b o e => Heap.get?_push_of_some _ e) (Nat.le_of_eq hD) ?_
    rw [← hD]
    exact txO_new (has_fresh X.w)
  have below : ∀ b ∈ fp, b < s2.heap.objs.size := fun b hb => by
    obtain ⟨o, e, _⟩ := T.obj _ _ st2 b hb
    exact Heap.lt_size e
  have f3 : ∀ b ∈ fp, FpOk X pins H3 b ∧ b < s3.heap.objs.size := fun b hb => by
    have lt := below b hb
    have ne : b ≠ D := by rw [← hD]; exact Nat.ne_of_lt lt
    refine ⟨⟨?_, (f2 b hb).2⟩, by rw [h3, Heap.size_push]; exact Nat.lt_succ_of_lt lt⟩
    rw [← hH3, upd_ne ne]
    exact (f2 b hb).1
  have st3 : tn 0 s3.heap := T.keep _ _ _ st2 fun b _ o e => by rw [h3]; exact Heap.get?_push_of_some _ e
  have I4 := block_start I3 ok hN f3
  generalize hcl : cellsFrom (s3.heap.objs.size + 1) scope.names (cloFrom X.env.cells scope.names []) = cl at I4
  have pg := hg s3 H3 s3.heap.objs.size cl fp
  have pe := he s3 H3 s3.heap.objs.size cl fp
  have goal : codeAny (model X.prog X.w) X.A (.compStart (.SetComp elt [⟨tg, iter, [], 0⟩] scope pos) 0 (.ref it) (.ref D) (compEnvC scope cl s3.heap.objs.size X.env))
      (compPost (model X.prog X.w) X.A X.xe none (EP X pins σ Q) (.ref D) s3.heap.objs.size) { s3 with heap := pushCells (s3.heap.push { cls := .type "dict", data := .dict #[] }) scope.names } := by
    have free3 : ∀ b ∈ fp, H3 b = none := fun b hb => (f3 b hb).1.1
    generalize hce : compEnvC scope cl s3.heap.objs.size X.env = ce at I4 pg pe ⊢
    have locals : ce.locals = s3.heap.objs.size := by subst hce; rfl
    generalize hs4 : ({ s3 with heap := pushCells (s3.heap.push { cls := .type "dict", data := .dict #[] }) scope.names } : Shared) = s4 at I4 ⊢
    have st4 : tn 0 s4.heap := T.keep _ _ _ st3 fun b _ o e => by rw [← hs4]; exact pushCells_keeps _ _ _ _ (Heap.get?_push_of_some _ e)
    have stat : ∀ {σ' : L2.St} {H' : Hp} {s' : Shared}, Inv (X.blk s3 H3 scope ce fp) [] σ' H' s' → (∀ b ∈ fp, H' b = none) → ∀ b ∈ fp, FpOk (X.blk s3 H3 scope ce fp) [] H' b := fun {σ' H' s'} I' hn b hb =>
      ⟨hn b hb, (I'.ok.exf b hb).1, I'.ok.exfs b hb, .inl hb, fun x c e => (I'.ok.exf b hb).2 x c e, fun p hp => absurd (show p ∈ ([] : List (Addr × Obj)) ++ [] from hp) (by simp)⟩
    have loop : codeAny (model X.prog X.w) X.A (.compLoop (.SetComp elt [⟨tg, iter, [], 0⟩] scope pos) 0 (.ref it) (.ref D) ce) (compPost (model X.prog X.w) X.A X.xe none (EP X pins σ Q) (.ref D) s3.heap.objs.size) s4 := by
      refine PpSet.compLoopS_any (fun n s' => ∃ i H', Inv (X.blk s3 H3 scope ce fp) [] (wipe σ (own.map (·.2))) H' s' ∧ tn i s'.heap ∧ (∀ b ∈ fp, H' b = none) ∧ W i n H') ?_ m0 ⟨0, H3, I4, st4, free3, w0⟩
      rintro n s5 ⟨i, H5, I5, st5, n5, w5⟩
      rcases turn i n H5 w5 with ⟨stop, qq⟩ | ⟨go, Nx, hNx, step⟩
      · refine thnF (T.done (X.blk s3 H3 scope ce fp) rfl rfl rfl hc i [] s5 _ H5 (fun _ _ => False) I5 (stat I5 n5) st5 stop) fun r s6 ⟨hr, I6⟩ => ?_
        subst hr
        have I7 : Inv X pins σ H5 s6 := I3.call' (ch := fp) I6.os I6.base I6.hok I6.bare fun b hb => by
          have z := (f3 b hb).1
          exact ⟨z.2.2.2.1, z.2.1, z.2.2.2.2.1, z.2.2.2.2.2⟩
        have nC : H5 s3.heap.objs.size = none := by
          rw [← locals]
          exact I6.free
        obtain ⟨m, hn, _⟩ := I6.loc
        have hn' : s6.heap.Ns s3.heap.objs.size m := by
          rw [← locals]
          exact hn
        refine ⟨m, hn', fun h'' sb => ?_⟩
        obtain ⟨z0, z1, z2, z3, z4, z5⟩ := I3.fpOk (Nat.le_refl _) nC
        exact ⟨.ref D, H5, I7.turned (t' := s6.toks) (fun b o hb e => (sb.2 b hb).trans e) z0 z1 z3 z4 z5, rfl, qq⟩
      · refine thnF (T.item (X.blk s3 H3 scope ce fp) rfl rfl rfl hc i [] s5 _ H5 (fun _ _ => False) I5 (stat I5 n5) st5 go) fun r s6 ⟨u, hr, h6⟩ => ?_
        subst hr
        refine thnF h6 fun _ s7 ⟨x, H7, I7, r7, y7, st7, n7⟩ => ?_
        have I7' := I7.pinned (stat I7 n7) (T.obj _ _ st7)
        refine thnF (pg.run _ s7 _ H7 x u _ I7' r7 (step x H7 y7)) fun _ s8 ⟨σ8, H8, I8, hw8, q8⟩ => ?_
        refine wpAny_pure ?_
        rw [if_pos rfl]
        refine thnF (pe.run _ s8 σ8 H8 _ I8 q8) fun z s10 ⟨yv, H10, I10, r10, c, ks, ey, hD10, room, nx⟩ => ?_
        subst ey
        obtain ⟨tk, ez⟩ := (show ∃ t, z = Value.str c t from r10)
        subst ez
        refine add_ok (X := X.blk s3 H3 scope ce fp) I10 hD10 room fun s11 I11 => ?_
        obtain ⟨m', hm, w'⟩ := hNx _ nx
        have pin' : ∀ b ∈ fp, ∀ o, s7.heap.get? b = some o → s11.heap.get? b = some o ∧ upd H10 D (TxO (X.blk s3 H3 scope ce fp).w D (plus ks c)) b = none := fun b hb o e =>
          let z := I11.pin (b, o) (List.mem_append_right _ (List.mem_append_right _ (mem_pinsAt hb e)))
          ⟨z.1, z.2.1⟩
        have len : (wipe σ (own.map (·.2))).length = σ8.length := by rw [← hw8, wipe_length]
        refine ⟨m', hm, i + 1, _, (I11.unpinned (pins := [])).weak len (fun j v e => ?_), T.keep _ _ _ st7 fun b hb o e => (pin' b hb o e).1, fun b hb => ?_, w'⟩
        · rw [← hw8] at e
          exact (wipe_some e).1
        · obtain ⟨o, e, _⟩ := T.obj _ _ st7 b hb
          exact (pin' b hb o e).2
    exact PpSet.codeAny_compStart_set loop (T.self X.A 0 _ _ _ st4 loop)
  exact goal
/-- over a tuple that stands still -/
theorem nm_tup {w : World} {K : PySem.W.Frag} {a : Addr} {xs : List V} {g : TG} {te : TE} {vs : List Nat} {σ : L2.St} {H1 : Hp} {D : Addr} {Qd : Hp → Prop} (Pv : Nat → Hp → Prop) (h0 : Pv 0 (upd H1 D (TxO w D [])))
    (hl : ∀ i H, i ≤ xs.length → Pv i H → SqT K H a xs)
    (hs : ∀ i x H, xs[i]? = some x → Pv i H → g x (wipe σ vs) H fun σ2 H2 => wipe σ2 vs = wipe σ vs ∧ te σ2 H2 fun y H4 =>
      ∃ (c : Str) (ks : List Str), y = .str c ∧ H4 D = some (TxO w D ks) ∧ ks.length + 1 < scanBound ∧ Pv (i + 1) (upd H4 D (TxO w D (plus ks c)))) (hd : ∀ H, Pv xs.length H → Qd H) :
    ∃ W : Nat → Nat → Hp → Prop, (∃ m, W 0 m (upd H1 D (TxO w D []))) ∧ ∀ i m H, W i m H → ((Itt K a).stop i H ∧ Qd H) ∨ ((Itt K a).go i H ∧ ∃ Nx : Hp → Prop, (∀ H', Nx H' → ∃ m', m' < m ∧ W (i + 1) m' H') ∧
      ∀ x H', (Itt K a).yld i H x H' → g x (wipe σ vs) H' fun σ2 H2 => wipe σ2 vs = wipe σ vs ∧ te σ2 H2 fun y H4 =>
        ∃ (c : Str) (ks : List Str), y = .str c ∧ H4 D = some (TxO w D ks) ∧ ks.length + 1 < scanBound ∧ Nx (upd H4 D (TxO w D (plus ks c)))) := by
  refine ⟨fun i m H => m = xs.length - i ∧ i ≤ xs.length ∧ Pv i H, ⟨xs.length, by simp, Nat.zero_le _, h0⟩, ?_⟩
  rintro i m H ⟨rfl, hi, p⟩
  have q := hl i H hi p
  rcases Nat.lt_or_ge i xs.length with lt | ge
  · refine .inr ⟨⟨xs, xs[i], q, by simp [lt]⟩, Pv (i + 1), fun H' p' => ⟨xs.length - (i + 1), by omega, rfl, lt, p'⟩, fun x H' y => ?_⟩
    obtain ⟨e, y⟩ := y
    subst e
    exact hs i x _ (y xs q) p
  · have e : i = xs.length := by omega
    subst e
    exact .inl ⟨⟨xs, q, Nat.le_refl _⟩, hd H p⟩
end
end Nm
namespace Nm
open PySem PySem.Spec PyProof.Rows L2
open Sem (wp)
abbrev enumObj (it : Addr) : Obj := { cls := .type "enumerate", data := .fields #[.none, .bool false, .ref it, rawInt 0, .none, .none] }
theorem meets_enum1 {v : Value} {o : Obj} {G : Heap → Prop} (B : Begins v o G) :
    Meets (Builtin.«enumerate.__new__» ⟨[.type "enumerate", v], []⟩) (fun _ R s => G s.heap ∧ R (.ok (.ret (.ref (s.heap.push o).objs.size))) { s with heap := (s.heap.push o).push (enumObj s.heap.objs.size) }) :=
  .of_wp fun prog w A R s h => by
    obtain ⟨hp, g, d, tk, os⟩ := s
    obtain ⟨h1, h⟩ := h
    have sub := sub_enumerate
    have begins : ∀ {A' : Around} {E : Value → Shared → Prop} {Q : Value → Shared → Prop}, Q (.ref hp.objs.size) ⟨hp.push o, g, d, tk, os⟩ → wpAny (model prog w) A' (pyIter v) Q E ⟨hp, g, d, tk, os⟩ := fun q => B.iter prog w _ _ ⟨hp, g, d, tk, os⟩ _ h1 q
    wp_walk
    refine wpAny_stack_any fun st => wpAny_pure ?_
    split
    · rename_i c _ _ _ _ _
      cases (c == Value.type "enumerate") <;> (wp_walk using begins; exact ⟨_, rfl, h⟩)
    · wp_walk using begins
      exact ⟨_, rfl, h⟩
section
variable {prog : Program} {w : World} {A : Around} {E : Value → Shared → Prop} {s : Shared}
theorem call_enum1 {v : Value} {o : Obj} {G : Heap → Prop} {Q : Value → Shared → Prop} (B : Begins v o G) (h1 : G s.heap)
    (h : ∀ h', IsEnum h' (s.heap.objs.size + 1) s.heap.objs.size 0 .none → h'.get? s.heap.objs.size = some o → h'.objs.size = s.heap.objs.size + 2 → (∀ b u, s.heap.get? b = some u → h'.get? b = some u) →
      Q (.ref (s.heap.objs.size + 1)) { s with heap := h' }) : wpAny (model prog w) A (call (.type "enumerate") [v]) Q E s := by
  have one : (s.heap.push o).objs.size = s.heap.objs.size + 1 := Heap.size_push ..
  have made : IsEnum ((s.heap.push o).push (enumObj s.heap.objs.size)) (s.heap.objs.size + 1) s.heap.objs.size 0 .none := by
    have q := Heap.get?_push_size (s.heap.push o) (o := enumObj s.heap.objs.size) rfl
    rw [one] at q
    exact q
  refine callType_new F.called_enumerate (by decide) (F.typeCall_enumerate_1 _) (F.newCall_enumerate_1 _) (fun obj => F.args_object_init_2 obj _) F.entry_enumerate_new (meets_enum1 B) ⟨h1, ?_⟩
  show _ ∧ _
  rw [one]
  exact ⟨⟨_, made, rfl⟩, h _ made (Heap.get?_push_of_some _ (Heap.get?_push_size _ B.free)) (by rw [Heap.size_push, one]) fun b u x => Heap.get?_push_of_some _ (Heap.get?_push_of_some _ x)⟩
end
/-- enumerate of a tuple that stands still: each item in a new pair -/
def Itu (K : PySem.W.Frag) (a : Addr) : It :=
  ⟨fun i H => ∃ (xs : List V) (x : V), SqT K H a xs ∧ xs[i]? = some x,
   fun i H v H' => ∃ T x, v = .ref T ∧ H T = none ∧ H' = upd H T (.tup [.int (i : Nat), x]) ∧ ∀ xs, SqT K H a xs → xs[i]? = some x,
   fun i H => ∃ xs : List V, SqT K H a xs ∧ xs.length ≤ i⟩
theorem turn_itu {P : Program} {w : World} {K : PySem.W.Frag} {elts : List Expr} {kk : Nat} {tpos : Pos} (a e it : Addr) (hei : e ≠ it) (hea : e ≠ a) (hia : a ≠ it) :
    Turn P w K (.Tuple elts kk tpos) (Itu K a) [e, it] e (fun i h => (∃ old, IsEnum h e it ((i : Nat) : Int) old) ∧ h.IsTupleIter it a i) where
  mem := by simp
  obj := fun i h st b hb => by
    obtain ⟨⟨old, he⟩, ⟨o, ho, hc, hd⟩⟩ := st
    rcases (show b = e ∨ b = it by simpa using hb) with z | z
    · rw [z]
      exact ⟨_, he, fun v q => nomatch q⟩
    · rw [z]
      exact ⟨o, ho, fun v q => by rw [hd] at q; cases q⟩
  keep := fun i h h' st k => ⟨st.1.imp fun old he => k e (by simp) _ he, st.2.at fun o q => k it (by simp) o q⟩
  item := by
    intro X hP hw hK hc i pins s σ H E I hf st hg
    subst hP hw hK
    obtain ⟨⟨old, he⟩, hit⟩ := st
    obtain ⟨xs, x, hq, hx⟩ := hg
    obtain ⟨its, rv, p, hz⟩ := I.tuple hq
    obtain ⟨u, hu, ru⟩ := rv.get hx
    have lte : e < s.heap.objs.size := Heap.lt_size he
    have lti : it < s.heap.objs.size := by
      obtain ⟨_, q, _⟩ := hit
      exact Heap.lt_size q
    have li : i < its.toArray.size := by
      have q := (List.getElem?_eq_some_iff.mp hu).1
      simpa using q
    refine wpAny_pyNext_enum_itemD (Draws.tuple (A := X.A.in1) (I.ok.hd hc) it a hia its.toArray) he ⟨hit, p⟩ li hei (by simp [hei, hea]) fun y h' tk hy ho hst' hT hsz hk => ?_
    have ey : y = u := by
      rw [show its.toArray[i]? = some u by simpa using hu] at hy
      exact (Option.some.inj hy).symm
    subst ey
    refine ⟨_, rfl, wpAny_letOwnedTupleGo_enum (s := { s with heap := h', toks := tk + 1 }) ho fun h'' he' sb => ?_⟩
    have hT2 : h''.get? s.heap.objs.size = some { cls := .type "tuple", data := .seq #[.int i tk, y] } := (sb.2 _ (Nat.ne_of_gt lte)).trans hT
    have new : ObjOk X.prog X.w (upd H s.heap.objs.size (.tup [.int (i : Nat), x])) h'' s.heap.objs.size (.tup [.int (i : Nat), x]) :=
      ⟨by show 2 ≤ sizeLine; decide, [.int i tk, y], .cons ⟨_, rfl⟩ (.cons ru .nil), ⟨_, hT2, rfl, _, rfl⟩⟩
    have I1 : Inv X pins σ (upd H s.heap.objs.size (.tup [.int (i : Nat), x])) { s with heap := h'', toks := tk + 1 } :=
      I.turnedNew (ch := [e, it]) (fun b ob hb q => (sb.2 b (fun z => hb (by simp [z]))).trans (hk b ob (fun z => hb (by simp [z])) (fun z => hb (by simp [z])) q)) hf (Nat.le_refl _) new
    refine ⟨.ref s.heap.objs.size, _, I1, rfl, ⟨_, x, rfl, I.hok.fresh (Nat.le_refl _), rfl, fun ys hys => by rw [I.tuple_inj hys hq]; exact hx⟩, ⟨⟨y, ?_⟩, hst'.1.at fun o q => (sb.2 it (Ne.symm hei)).trans q⟩, fun b hb => ?_⟩
    · rw [show ((i + 1 : Nat) : Int) = (i : Int) + 1 by omega]
      exact he'
    · have lt : b < s.heap.objs.size := by
        rcases (show b = e ∨ b = it by simpa using hb) with z | z
        · rw [z]; exact lte
        · rw [z]; exact lti
      rw [upd_ne (Nat.ne_of_lt lt)]
      exact (hf b hb).1
  done := by
    intro X hP hw hK hc i pins s σ H E I hf st hg
    subst hP hw hK
    obtain ⟨⟨old, he⟩, hit⟩ := st
    obtain ⟨xs, hq, hx⟩ := hg
    obtain ⟨its, rv, p, hz⟩ := I.tuple hq
    obtain ⟨f0, f1, f2, f3, f4, f5⟩ := hf it (by simp)
    have hl := rv.length
    have D : Draws X.prog X.w X.A.in1 it [it, a] i (fun _ _ => True) (fun j h => j = i ∧ h.IsTupleIter it a j ∧ h.IsTuple a its.toArray) := by
      have T := Draws.tuple (prog := X.prog) (w := X.w) (A := X.A.in1) (I.ok.hd hc) it a hia its.toArray
      exact {
        live := fun j h z => T.live j h z.2
        frame := fun j h h' z k => ⟨z.1, T.frame j h h' z.2 k⟩
        item := fun j s Q E hj st hQ => absurd hj (by rw [st.1]; exact Nat.lt_irrefl _)
        done := fun s Q E st hE => wpAny_nextOf_tuple_end (I.ok.hd hc) st.2.1 st.2.2 (by simp; omega) hE }
    exact wpAny_pyNext_enum_endD D he ⟨rfl, hit, p⟩ fun h' eb => ⟨rfl, I.turned (t' := s.toks) (fun b o hb q => eb b o hb q) f0 f1 f3 f4 f5⟩
  self := fun A i s Q E st h => let ⟨⟨_, he⟩, _⟩ := st; wpAny_pyIter_enum he h
/-- for i, x in enumerate(t), t a tuple -/
def iEnuT (K : PySem.W.Frag) (ta : TA) : TI := fun σ H R => ta σ H fun vs H1 => ∃ a xs, vs = [.ref a] ∧ SqT K H1 a xs ∧ R (Itu K a) H1
theorem pi_enuT {X : Cx} {e : Expr} {ta : TA} {p pos tpos : Pos} {elts : List Expr} {kk : Nat} (hg : Gl X "enumerate") (hm : X.mg "enumerate" = none) (ha : PA X [e] ta) (hs : starEach [e] X.env = [(false, eval e X.env)] := by rfl) :
    PI X (.Tuple elts kk tpos) (.Call (.Name "enumerate" p) [e] [] pos) (iEnuT X.K ta) := by
  refine ⟨fun pins s σ H R I h => ?_⟩
  refine Call_ (ld_blt I hg hm boot_enumerate (PyProof.Rows.callWith_type1 (thn (ha.run pos pins s σ H _ I h) fun us s1 ⟨vs, H1, I1, r1, q1⟩ => ?_) hs rfl))
  obtain ⟨a, xs, ex, hq, q⟩ := q1
  subst ex
  cases r1 with
  | cons r rr =>
    cases rr
    cases r
    obtain ⟨its, rv, p', hz⟩ := I1.tuple hq
    have lta : a < s1.heap.objs.size := by
      obtain ⟨o, ho, _⟩ := id p'
      exact Heap.lt_size ho
    refine call_enum1 (begins_tuple a its.toArray) p' fun h' he hit hsz hk => wpAny_pyIter_enum he ?_
    have I2 : Inv X pins σ H1 { s1 with heap := h' } := I1.kept (t' := s1.toks) hk
    refine ⟨s1.heap.objs.size + 1, [s1.heap.objs.size + 1, s1.heap.objs.size], _, _, H1, rfl, I2,
      turn_itu a (s1.heap.objs.size + 1) s1.heap.objs.size (Nat.succ_ne_self _) (Nat.ne_of_gt (Nat.lt_succ_of_lt lta)) (Nat.ne_of_lt lta), ⟨⟨.none, he⟩, ⟨_, hit, rfl, rfl⟩⟩, fun b hb => ?_, q⟩
    have le : s1.heap.objs.size ≤ b := by
      rcases (show b = s1.heap.objs.size + 1 ∨ b = s1.heap.objs.size by simpa using hb) with z | z
      · rw [z]; exact Nat.le_add_right _ _
      · rw [z]; exact Nat.le_refl _
    exact I1.fpOk le (I1.hok.fresh le)
theorem walk_itu {K : PySem.W.Frag} {a : Addr} {xs : List V} : Walk (Itu K a) xs.length (fun H => SqT K H a xs) (YPair (fun i => some (.int (i : Nat))) (fun i => xs[i]?)) := by
  refine ⟨fun i _ hi q => ⟨xs, xs[i], q, by simp [hi]⟩, fun _ q => ⟨xs, q, Nat.le_refl _⟩, fun i H v H' _ q y => ?_⟩
  obtain ⟨T, x, h1, h2, h3, h4⟩ := y
  exact ⟨T, .int (i : Nat), x, h1, h2, h3, rfl, h4 xs q⟩
end Nm
namespace Nm
open PySem PySem.Spec PyProof.Rows L2
/-- t * 1 is t itself -/
theorem tuple_mul1 (l : Addr) (items : Array Value) (n : Nat) (dd : Option Addr) (sl : Array (Option Value)) (u : Tok) :
    Meets (Builtin.«tuple.__mul__» ⟨[.ref l, .int 1 u], []⟩) (fun _ R s => s.heap.get? l = some { cls := .type "tuple", dict := dd, data := .seq items n, slots := sl } ∧ R (.ok (.ret (Value.ref l))) s) :=
  .of_wp fun prog w A R s h => by
    obtain ⟨hp, g, d, tk, os⟩ := s
    obtain ⟨hl, h⟩ := h
    have f1 := AutoSeq1.idx_int
    have c0 : (decide ((1 : Int) < -(2 ^ 63)) || decide ((1 : Int) ≥ 2 ^ 63)) = false := by decide
    have c1 : (items.isEmpty || (1 : Int) == 1) = true := by cases items.isEmpty <;> rfl
    wp_walk using wpAny_loadPart' hl
    exact ⟨_, rfl, h⟩
def rRep1 (K : PySem.W.Frag) : R2 := fun x y H Q => ∃ l xs, x = .ref l ∧ y = .int 1 ∧ SqT K H l xs ∧ Q (.ref l) H
def rBlCount (K : PySem.W.Frag) : V → List V → Hp → VK → Prop := fun x xs H Q => ∃ (p : Addr) (bs : List Bool) (c : Bool), x = .ref p ∧ xs = [.bl c] ∧ SqL K H p (bs.map V.bl) ∧ Q (.int (bs.count c : Nat)) H
section
variable {X : Cx}
theorem op_rep1 : OpR X (binaryOp .Mult) (rRep1 X.K) := by
  intro pins s σ H x y v u Q I rx ry h
  obtain ⟨l, xs, rfl, rfl, hT, q⟩ := h
  cases rx
  obtain ⟨t, rfl⟩ := ry
  obtain ⟨its, r, ⟨⟨cls, dd, data, sl⟩, ho, hc, n, hd⟩, hs⟩ := I.tuple hT
  simp only at hc hd
  subst hc hd
  refine wpAny_binaryOp_repeat_ref (T := "tuple") (U := "int") (by decide) ⟨_, ho, rfl⟩ (fun s' => typeIs_int s' 1 t) noFill_tuple_mul F.fills_int_mul F.slot_int_rmul repeat_tuple F.slot_int_index.lookup
    (call_meets F.slot_int_rmul (typeIs_int s 1 t) F.entry_int_rmul (F.args_int_rmul_2 _ _) (int_rmul_tuple 1 t l its.toArray n dd sl)
      ⟨ho, rfl, ⟨_, ho, rfl⟩, call_meets F.slot_tuple_mul ⟨_, ho, rfl⟩ F.entry_tuple_mul (F.args_tuple_mul_2 _ _) (tuple_mul1 l its.toArray n dd sl t) ⟨ho, ⟨.ref l, H, I, rfl, q⟩⟩⟩)
def isBl (c : Bool) (v : Value) : Bool := match v with | .bool b => b == c | _ => false
theorem mt_blcount : MtR X "list.count" (rBlCount X.K) := by
  intro pins s σ H x xs v us Q I rx rxs h
  obtain ⟨p, bs, c, rfl, rfl, hs, q⟩ := h
  cases rx
  obtain ⟨u, rfl, ru⟩ := rxs.one
  obtain rfl : u = Value.bool c := ru
  obtain ⟨its, rv, ⟨⟨cls, dd, data, sl⟩, n, ho, hc, hdn, hd⟩, hlen⟩ := I.list hs
  simp only at hc hd
  subst hc hd
  have eb := Vals.bls rv
  refine call_meets PySem.F.slot_list_count ⟨_, ho, rfl⟩ PySem.F.entry_list_count (PySem.F.args_list_count_2 _ _) (SeqAt.list_countAt p its.toArray n dd sl (.bool c) (isBl c)) ⟨ho, fun y hy => ?_, ?_⟩
  · have hm : y ∈ its := by simpa using hy
    rw [eb] at hm
    obtain ⟨b, _, rfl⟩ := List.mem_map.mp hm
    exact SeqAt.EqAt.bool_bool b c
  · have ec : its.toArray.toList.countP (isBl c) = bs.count c := by
      show its.countP (isBl c) = _
      rw [eb, List.countP_map]
      rfl
    refine ⟨.int (bs.count c : Nat), H, I.tok _, ⟨s.toks, ?_⟩, q⟩
    show Value.int ((its.toArray.toList.countP (isBl c) : Nat) : Int) s.toks = Value.int ((bs.count c : Nat) : Int) s.toks
    rw [ec]
/-- nothing is asked that could be met: an expression that is never reached -/
theorem pe_never {e : Expr} : PE X e (fun _ _ _ => False) := ⟨fun _ _ _ _ _ _ h => h.elim⟩
end
end Nm
namespace Nm
open PySem PySem.Spec PyProof.Rows L2
open C8 (Cal Mak pe_c pe_mk pe_gc)
open RZ (ItzT pi_zipA)
/-- a def of the text that stands under its name -/
def Top (K : PySem.W.Frag) (mg : Str → Option Value) (x : Str) (st : Stmt) : Prop := ∃ f fd, Fun K x x st f fd ∧ mg x = some (.ref f)
section
variable {P : Program} {w : World} {K : PySem.W.Frag} {mg : Str → Option Value} {base : Heap}
theorem cal_of {x : Str} {st : Stmt} {N ps : List Str} {k : Nat} {sp : Sp} (D : Top K mg x st) (S : FnScope N ps (defScope st))
    (hb : ∀ (kV doc pm : Value) (an : Option Addr) (cdv ct : Value) (us : List Value), us.length = ps.length → bindArgs (PySem.W.fnOf x x (defArgs st) (defBody st) (defScope st) .none kV doc pm an cdv ct) ⟨us, []⟩ = pure (ps.zip us))
    (len : ∀ vs H Q E, sp vs H Q E → vs.length = ps.length)
    (body : ∀ (f : Addr) (cdv : Value) (A : Around) (outer : List Env) (s : Shared) (H : Hp) (vs : List V) (Q : VK) (E : XK), Room k (A.deeper (envOfC x (defScope st) s.heap.objs.size f cdv)) → sp vs H Q E →
      ∃ t, PSs (cxOf CX0 P w K mg base N x (defScope st) f cdv A outer s H E).nox (defBody st) t ∧ t { nx := fun _ H' => Q .non H', rt := Q } (start N vs) H) : Cal P w K mg base (k + 1) x sp [] := by
  obtain ⟨f, fd, F, hm⟩ := D
  exact ⟨f, fd, ps, [], F.ok S len fun cdv A outer s H vs Q E hr h => body f cdv A outer s H vs Q E hr h, hm, F.kp, F.binds hb, .nil⟩
end
theorem cal_mono {P : Program} {w : World} {K : PySem.W.Frag} {mg : Str → Option Value} {base : Heap} {k : Nat} {x : Str} {sp sp' : Sp} (c : Cal P w K mg base k x sp []) (h : ∀ vs H Q E, sp' vs H Q E → sp vs H Q E) : Cal P w K mg base k x sp' [] := by
  obtain ⟨f, fd, ps, ds, F, hm, kp, b, d⟩ := c.ex
  obtain ⟨F1, F2⟩ := F
  exact ⟨f, fd, ps, ds, ⟨fun vs H Q E q => F1 vs H Q E (h vs H Q E q), fun A outer s H args us vs Q E a1 a2 a3 a4 q => F2 A outer s H args us vs Q E a1 a2 a3 a4 (h vs H Q E q)⟩, hm, kp, b, d⟩
/-- laid over something new all stands -/
theorem same_new {H : Hp} {p : Addr} {o : HO} (h : H p = none) : Same H (upd H p o) := fun b u q => by
  rw [upd_ne (ne_of_none q h)]
  exact q
/-- what happens to a new object leaves the rest -/
theorem same_mut {H H' : Hp} {p : Addr} {o : HO} (g : Same H H') (h : H p = none) : Same H (upd H' p o) := fun b u q => by
  rw [upd_ne (ne_of_none q h)]
  exact g b u q
/-- what isinstance says -/
theorem is_int {K : PySem.W.Frag} : PySem.W.kitOne K (.type "int") (.type "int") = some true := kit_ty (by decide +kernel)
theorem is_int_bool {K : PySem.W.Frag} : PySem.W.kitOne K (.type "int") (.type "bool") = some false := kit_ty (by decide +kernel)
theorem is_tup_int {K : PySem.W.Frag} : PySem.W.kitOne K (.type "tuple") (.type "int") = some false := kit_ty (by decide +kernel)
theorem is_tup {K : PySem.W.Frag} : PySem.W.kitOne K (.type "tuple") (.type "tuple") = some true := kit_ty (by decide +kernel)
theorem is_int_tup {K : PySem.W.Frag} : PySem.W.kitOne K (.type "int") (.type "tuple") = some false := kit_ty (by decide +kernel)
theorem is_str {K : PySem.W.Frag} : PySem.W.kitOne K (.type "str") (.type "str") = some true := kit_ty (by decide +kernel)
theorem is_bool {K : PySem.W.Frag} : PySem.W.kitOne K (.type "bool") (.type "bool") = some true := kit_ty (by decide +kernel)
def isInt : V → Bool
  | .int _ => true
  | _ => false
def isStr : V → Bool
  | .str _ => true
  | _ => false
/-- isinstance(x, n) is b -/
def TyC (K : PySem.W.Frag) (H : Hp) (x : V) (n : String) (b : Bool) : Prop := ∃ t, TyX K H x t ∧ PySem.W.kitOne K t (.type n) = some b
/-- what the program's own look for an integer needs -/
def TyI (K : PySem.W.Frag) (H : Hp) (x : V) : Prop := ∃ b c, TyC K H x "int" b ∧ TyC K H x "bool" c ∧ (b && !c) = isInt x
section
variable {K : PySem.W.Frag} {H : Hp}
theorem tyc_int (i : Int) : TyC K H (.int i) "int" true := ⟨_, .base (.int i), kit_ty (by decide +kernel)⟩
theorem tyi_int (i : Int) : TyI K H (.int i) := ⟨true, false, ⟨_, .base (.int i), kit_ty (by decide +kernel)⟩, ⟨_, .base (.int i), kit_ty (by decide +kernel)⟩, rfl⟩
theorem tyi_tup {a : Addr} {xs : List V} (h : H a = some (.tup xs)) : TyI K H (.ref a) := ⟨false, false, ⟨_, .base (.tup h), kit_ty (by decide +kernel)⟩, ⟨_, .base (.tup h), kit_ty (by decide +kernel)⟩, rfl⟩
theorem tyi_str (z : Str) : TyI K H (.str z) := ⟨false, false, ⟨_, .base (.str z), kit_ty (by decide +kernel)⟩, ⟨_, .base (.str z), kit_ty (by decide +kernel)⟩, rfl⟩
theorem tyc_tup {a : Addr} {xs : List V} (h : H a = some (.tup xs)) : TyC K H (.ref a) "tuple" true := ⟨_, .base (.tup h), kit_ty (by decide +kernel)⟩
theorem tyc_int_tup (i : Int) : TyC K H (.int i) "tuple" false := ⟨_, .base (.int i), kit_ty (by decide +kernel)⟩
theorem tyc_str (z : Str) : TyC K H (.str z) "str" true := ⟨_, .base (.str z), kit_ty (by decide +kernel)⟩
theorem tyc_bl (b : Bool) : TyC K H (.bl b) "bool" true := ⟨_, .base (.bl b), kit_ty (by decide +kernel)⟩
end
/-- a text of 1 to most letters a to z -/
def letB (z : Str) (most : Int) : Bool := decide (1 ≤ (z.length : Int)) && decide ((z.length : Int) ≤ most) && z.cps.toList.all (fun c => decide (97 ≤ c) && decide (c ≤ 122))
def letV (x : V) (most : Int) : Bool := match x with | .str z => letB z most | _ => false
def within (x : V) (lo hi : Int) : Bool := match x with | .int n => decide (lo ≤ n) && decide (n ≤ hi) | _ => false
theorem sign_lt (c d : Nat) : decide (([c] : List Nat) < [d]) = decide (c < d) := by
  by_cases h : c < d
  · rw [decide_eq_true h]
    exact decide_eq_true (List.Lex.rel h)
  · rw [decide_eq_false h]
    refine decide_eq_false fun q => ?_
    cases q with
    | rel r => exact h r
    | cons r => cases r
/-! ### boards -/
/-- a board: its name, the side, the row that was played -/
abbrev Bd := Str × Int × List Str
def BoardAt (H : Hp) (v : V) (b : Bd) : Prop := ∃ a r, v = .ref a ∧ H a = some (.tup [.str b.1, .int b.2.1, .ref r]) ∧ H r = some (.tup (b.2.2.map V.str))
def BoardsAt (H : Hp) (a : Addr) (bs : List Bd) : Prop := ∃ xs, H a = some (.tup xs) ∧ Paired (BoardAt H) xs bs
def rowB (ws : List Str) (most : Int) : Bool := decide ((ws.length : Int) ≤ most) && ws.all (fun z => letB z 20)
def boardB (b : Bd) : Bool := letB b.1 8 && (within (.int b.2.1) 0 1 && rowB b.2.2 20)
/-- nothing here is too long for the model -/
def smallBd (b : Bd) : Prop := b.1.length ≤ 1000 ∧ b.2.2.length ≤ 1000 ∧ ∀ z ∈ b.2.2, z.length ≤ 1000
theorem BoardAt.mono {H H' : Hp} (k : ∀ a xs, H a = some (.tup xs) → H' a = some (.tup xs)) {v : V} {b : Bd} (h : BoardAt H v b) : BoardAt H' v b := by
  obtain ⟨a, r, e, h1, h2⟩ := h
  exact ⟨a, r, e, k _ _ h1, k _ _ h2⟩
theorem paired_mono {α β : Type} {R S : α → β → Prop} (h : ∀ a b, R a b → S a b) : ∀ {xs : List α} {ys : List β}, Paired R xs ys → Paired S xs ys
  | _, _, .nil => .nil
  | _, _, .cons r t => .cons (h _ _ r) (paired_mono h t)
theorem paired_at {α β : Type} {R : α → β → Prop} : ∀ {xs : List α} {ys : List β}, Paired R xs ys → ∀ (i : Nat) (x : α), xs[i]? = some x → ∃ y, ys[i]? = some y ∧ R x y
  | _, _, .nil, i, x, h => by simp at h
  | _, _, .cons r t, 0, x, h => by
    simp at h
    subst h
    exact ⟨_, rfl, r⟩
  | _, _, .cons r t, i + 1, x, h => by
    obtain ⟨y, h1, h2⟩ := paired_at t i x (by simpa using h)
    exact ⟨y, by simpa using h1, h2⟩
theorem paired_len {α β : Type} {R : α → β → Prop} : ∀ {xs : List α} {ys : List β}, Paired R xs ys → xs.length = ys.length
  | _, _, .nil => rfl
  | _, _, .cons _ t => by rw [List.length_cons, List.length_cons, paired_len t]
theorem BoardsAt.mono {H H' : Hp} (k : ∀ a xs, H a = some (.tup xs) → H' a = some (.tup xs)) {a : Addr} {bs : List Bd} (h : BoardsAt H a bs) : BoardsAt H' a bs := by
  obtain ⟨xs, h1, h2⟩ := h
  exact ⟨xs, k _ _ h1, paired_mono (fun _ _ => BoardAt.mono k) h2⟩
theorem same_tups {H H' : Hp} (g : Same H H') : ∀ a xs, H a = some (.tup xs) → H' a = some (.tup xs) := fun a xs h => g a _ h
/-! ### texts gathered -/
theorem take_one {α : Type} {l : List α} {i : Nat} {x : α} (h : l[i]? = some x) : l.take (i + 1) = l.take i ++ [x] := by
  rw [List.take_add_one, h]
  rfl
/-- the program's own word for the names: each once, ascending -/
structure Names (xs ys : List Str) : Prop where
  up : PyProof.Rows.sortedS ys = true
  nd : ys.Nodup
  mem : ∀ x, x ∈ ys ↔ x ∈ xs
/-- a hall stands at p, with these boards -/
def HallAt (K : PySem.W.Frag) (H : Hp) (p : Addr) (bs : List Bd) : Prop := ∃ C dx fs a n ys, Cls K C ∧ NoAttr K C "boards" ∧ NoAttr K C "names" ∧ H p = some (.ins C dx fs) ∧ fs.lookup ("boards" : Str) = some (.ref a) ∧ fs.lookup ("names" : Str) = some (.ref n) ∧
  BoardsAt H a bs ∧ H n = some (.tup (ys.map V.str)) ∧ Names (bs.map (·.1)) ys
/-- all that is no list stands -/
def Keep (H H' : Hp) : Prop := ∀ b o, H b = some o → (∀ xs, o ≠ .lst xs) → H' b = some o
theorem same_keep {H H' : Hp} (g : Same H H') : Keep H H' := fun b o h _ => g b o h
theorem Keep.refl (H : Hp) : Keep H H := fun _ _ h _ => h
theorem Keep.trans {H H1 H2 : Hp} (a : Keep H H1) (b : Keep H1 H2) : Keep H H2 := fun c o h n => b c o (a c o h n) n
theorem Keep.tups {H H' : Hp} (g : Keep H H') : ∀ a xs, H a = some (.tup xs) → H' a = some (.tup xs) := fun a xs h => g a _ h fun _ e => nomatch e
theorem HallAt.mono {K : PySem.W.Frag} {H H' : Hp} (g : Keep H H') {p : Addr} {bs : List Bd} (h : HallAt K H p bs) : HallAt K H' p bs := by
  obtain ⟨C, dx, fs, a, n, ys, h1, h2, h3, h4, h5, h6, h7, h8, h9⟩ := h
  exact ⟨C, dx, fs, a, n, ys, h1, h2, h3, g _ _ h4 (fun _ e => nomatch e), h5, h6, h7.mono g.tups, g.tups _ _ h8, h9⟩
theorem nb_ne : ¬ (("boards" : Str) = "names") := by decide +kernel
/-! ### zip of two tuples of any lengths -/
theorem walk_zipT {K : PySem.W.Frag} {a b : Addr} {xs ys : List V} {n : Nat} (hn : n = min xs.length ys.length) : Walk (ItzT K a b) n (fun H => SqT K H a xs ∧ SqT K H b ys) (YPair (fun i => xs[i]?) (fun i => ys[i]?)) := by
  subst hn
  refine ⟨fun i _ hi q => ?_, fun _ q => ⟨xs, ys, q.1, q.2, by omega⟩, fun i H v H' _ q y => ?_⟩
  · have h1 : i < xs.length := by omega
    have h2 : i < ys.length := by omega
    exact ⟨xs, ys, xs[i], ys[i], q.1, q.2, by simp [h1], by simp [h2]⟩
  · obtain ⟨T, x, z, h1, h2, h3, h4, h5⟩ := y
    exact ⟨T, x, z, h1, h2, h3, h4 xs q.1, h5 ys q.2⟩
/-- the ints rise, each pair of neighbours looked at -/
def ascB (ns : List Int) : Bool := (ns.zip (ns.drop 1)).all fun p => decide (p.1 < p.2)
theorem ascB_of {ns : List Int} (h : ns.Pairwise (· < ·)) : ascB ns = true := by
  unfold ascB
  rw [List.all_eq_true]
  intro p hp
  refine decide_eq_true ?_
  induction ns with
  | nil => simp at hp
  | cons a r ih =>
    obtain ⟨h1, h2⟩ := List.pairwise_cons.mp h
    cases r with
    | nil => simp at hp
    | cons b r =>
      rw [List.drop_one, List.tail_cons] at hp
      rcases List.mem_cons.mp (by simpa using hp) with e | e
      · subst e
        exact h1 b List.mem_cons_self
      · refine ih h2 ?_
        rw [List.drop_one, List.tail_cons]
        exact e
theorem map_at {α β : Type} {f : α → β} {l : List α} {i : Nat} {y : β} (h : (l.map f)[i]? = some y) : ∃ x, l[i]? = some x ∧ y = f x := by
  rw [List.getElem?_map] at h
  cases e : l[i]? with
  | none =>
    rw [e] at h
    cases h
  | some x =>
    rw [e] at h
    exact ⟨x, rfl, (Option.some.inj h).symm⟩
/-- a def that nobody can ask anything of -/
theorem cal_void {P : Program} {w : World} {K : PySem.W.Frag} {mg : Str → Option Value} {base : Heap} {x : Str} {st : Stmt} {ps : List Str} {k : Nat} {sp : Sp} (D : Top K mg x st)
    (hb : ∀ (kV doc pm : Value) (an : Option Addr) (cdv ct : Value) (us : List Value), us.length = ps.length → PySem.bindArgs (PySem.W.fnOf x x (defArgs st) (defBody st) (defScope st) .none kV doc pm an cdv ct) ⟨us, []⟩ = pure (ps.zip us))
    (no : ∀ vs H Q E, ¬ sp vs H Q E) : Cal P w K mg base k x sp [] := by
  obtain ⟨f, fd, F, hm⟩ := D
  exact ⟨f, fd, ps, [], ⟨fun vs H Q E h => absurd h (no vs H Q E), fun A outer s H args us vs Q E _ _ _ _ h => absurd h (no vs H Q E)⟩, hm, F.kp, F.binds hb, .nil⟩
/-! ### aims -/
inductive AKind where
  | all | some | least (k : Int)
def AKind.head : AKind → List V
  | .all => [.str "all"]
  | .some => [.str "some"]
  | .least k => [.str "least", .int k]
def AKind.ok : AKind → Prop
  | .least k => 0 ≤ k ∧ k ≤ 25
  | _ => True
def AKind.val : AKind → List Bool → Bool
  | .all, bs => bs.all id
  | .some, bs => bs.any id
  | .least k, bs => decide (k ≤ (bs.count true : Nat))
def AKind.need : AKind → Nat → Int
  | .all, n => n
  | .some, _ => 1
  | .least k, _ => k
/-- what an aim says of the boards that are won -/
abbrev ASem := (Int → Bool) → Bool
/-- at v stands an aim of boards below many, at most d deep, of s aims, that says φ -/
def AimV (H : Hp) (many : Int) : Nat → V → Nat → ASem → Prop
  | 0, _, _, _ => False
  | d + 1, v, s, φ => (∃ n : Int, v = .int n ∧ 0 ≤ n ∧ n < many ∧ s = 1 ∧ φ = fun w => w n) ∨
    (∃ (a p : Addr) (xs : List V) (kd : AKind) (ys : List (Nat × ASem)), v = .ref a ∧ H a = some (.tup (kd.head ++ [.ref p])) ∧ H p = some (.tup xs) ∧ kd.ok ∧ xs.length ≤ 24 ∧ Paired (fun x y => AimV H many d x y.1 y.2) xs ys ∧
      s = 1 + (ys.map (·.1)).sum ∧ φ = fun w => kd.val (ys.map fun y => y.2 w))
theorem AimV.mono {H H' : Hp} {many : Int} (k : ∀ a xs, H a = some (.tup xs) → H' a = some (.tup xs)) : ∀ {d : Nat} {v : V} {s : Nat} {φ : ASem}, AimV H many d v s φ → AimV H' many d v s φ
  | 0, _, _, _, h => h.elim
  | d + 1, v, s, φ, h => by
    rcases h with h | ⟨a, p, xs, kd, ys, h1, h2, h3, h4, h5, h6, h7, h8⟩
    · exact .inl h
    · exact .inr ⟨a, p, xs, kd, ys, h1, k _ _ h2, k _ _ h3, h4, h5, paired_mono (fun _ _ h => AimV.mono k h) h6, h7, h8⟩
theorem AimV.deeper {H : Hp} {many : Int} : ∀ {d e : Nat} {v : V} {s : Nat} {φ : ASem}, d ≤ e → AimV H many d v s φ → AimV H many e v s φ
  | 0, _, _, _, _, _, h => h.elim
  | d + 1, 0, _, _, _, l, _ => absurd l (Nat.not_succ_le_zero d)
  | d + 1, e + 1, v, s, φ, l, h => by
    rcases h with h | ⟨a, p, xs, kd, ys, h1, h2, h3, h4, h5, h6, h7, h8⟩
    · exact .inl h
    · exact .inr ⟨a, p, xs, kd, ys, h1, h2, h3, h4, h5, paired_mono (fun _ _ h => AimV.deeper (Nat.le_of_succ_le_succ l) h) h6, h7, h8⟩
theorem AimV.pos {H : Hp} {many : Int} : ∀ {d : Nat} {v : V} {s : Nat} {φ : ASem}, AimV H many d v s φ → 1 ≤ s
  | 0, _, _, _, h => h.elim
  | d + 1, v, s, φ, h => by
    rcases h with ⟨n, _, _, _, e, _⟩ | ⟨a, p, xs, kd, ys, h1, h2, h3, h4, h5, h6, h7, h8⟩ <;> omega
theorem head_len (kd : AKind) : (kd.head ++ [V.ref p]).length = 2 ∨ (kd.head ++ [V.ref p]).length = 3 := by
  cases kd
  · exact .inl rfl
  · exact .inl rfl
  · exact .inr rfl
def b2 (b : Bool) : Int := if b then 1 else 0
theorem iteP {c A B : Prop} [Decidable c] (hc : c) (h : A) : if c then A else B := by
  rw [if_pos hc]
  exact h
theorem iteN {c A B : Prop} [Decidable c] (hc : ¬ c) (h : B) : if c then A else B := by
  rw [if_neg hc]
  exact h
theorem nt {b : Bool} (h : b = false) : ¬ b = true := by rw [h]; exact Bool.false_ne_true
theorem l2 : 2 ≤ PySem.sizeLine := by decide
theorem sum_take_le : ∀ (l : List Nat) (i : Nat), (l.take i).sum ≤ l.sum
  | [], i => by simp
  | x :: l, 0 => by simp
  | x :: l, i + 1 => by
    have := sum_take_le l i
    simp only [List.take_succ_cons, List.sum_cons]
    omega
theorem sum_take_one {l : List Nat} {i x : Nat} (h : l[i]? = some x) : (l.take (i + 1)).sum = (l.take i).sum + x := by
  rw [take_one h, List.sum_append]
  simp
theorem int_ne {i j : Int} (h : i ≠ j) : decide (V.int i = V.int j) = false := decide_eq_false fun e => h (V.int.inj e)
theorem int_eq {i j : Int} (h : i = j) : decide (V.int i = V.int j) = true := decide_eq_true (congrArg V.int h)
/-! ### the tape from which a law draws -/
def TapeAt (H : Hp) (tp l : Addr) : Prop := ∃ (ns : List Int) (i c m n : Int), H tp = some (.lst [.ref l, .int i, .int c, .int m, .int n]) ∧ H l = some (.lst (ns.map V.int)) ∧ 0 ≤ i
/-- all but the tape stands -/
def Mov (tp : Addr) (H H' : Hp) : Prop := ∀ b o, H b = some o → b ≠ tp → H' b = some o
theorem Mov.refl (tp : Addr) (H : Hp) : Mov tp H H := fun _ _ h _ => h
theorem Mov.trans {tp : Addr} {H H1 H2 : Hp} (a : Mov tp H H1) (b : Mov tp H1 H2) : Mov tp H H2 := fun c o h n => b c o (a c o h n) n
theorem mov_same {tp : Addr} {H H' : Hp} (g : Same H H') : Mov tp H H' := fun b o h _ => g b o h
theorem mov_upd {tp : Addr} {H : Hp} {o : HO} : Mov tp H (upd H tp o) := fun b u h n => by
  rw [upd_ne n]
  exact h
theorem mov_mut {tp : Addr} {H H' : Hp} {p : Addr} {o : HO} (g : Mov tp H H') (h : H p = none) : Mov tp H (upd H' p o) := fun b u q n => by
  rw [upd_ne (ne_of_none q h)]
  exact g b u q n
theorem TapeAt.keep {H H' : Hp} {tp l : Addr} (t : TapeAt H tp l) (m : Mov tp H H') : Keep H H' := fun b o h n => m b o h fun e => by
  obtain ⟨ns, i, c, k, j, h1, _⟩ := t
  rw [e, h1] at h
  exact n _ (Option.some.inj h).symm
theorem TapeAt.same {H H' : Hp} {tp l : Addr} (t : TapeAt H tp l) (g : Same H H') : TapeAt H' tp l := by
  obtain ⟨ns, i, c, k, j, h1, h2, h3⟩ := t
  exact ⟨ns, i, c, k, j, g _ _ h1, g _ _ h2, h3⟩
theorem TapeAt.new {H : Hp} {tp l p : Addr} (t : TapeAt H tp l) (h : H p = none) : p ≠ tp ∧ p ≠ l := by
  obtain ⟨ns, i, c, k, j, h1, h2, h3⟩ := t
  exact ⟨(ne_of_none h1 h).symm, (ne_of_none h2 h).symm⟩
theorem TapeAt.upd {H : Hp} {tp l p : Addr} {o : HO} (t : TapeAt H tp l) (n : p ≠ tp ∧ p ≠ l) : TapeAt (L2.upd H p o) tp l := by
  obtain ⟨ns, i, c, k, j, h1, h2, h3⟩ := t
  exact ⟨ns, i, c, k, j, by rw [upd_ne n.1.symm]; exact h1, by rw [upd_ne n.2.symm]; exact h2, h3⟩
theorem keep_lst {H : Hp} {p : Addr} {xs ys : List V} (h : H p = some (.lst xs)) : Keep H (upd H p (.lst ys)) := fun b o hb n => by
  rw [upd_ne (fun e => by rw [e, h] at hb; exact n _ (Option.some.inj hb).symm)]
  exact hb
theorem paired_snoc {α β : Type} {R : α → β → Prop} : ∀ {xs : List α} {ys : List β} {x : α} {y : β}, Paired R xs ys → R x y → Paired R (xs ++ [x]) (ys ++ [y])
  | _, _, _, _, .nil, h => .cons h .nil
  | _, _, _, _, .cons r t, h => .cons r (paired_snoc t h)
theorem sum_bound {B : Nat} : ∀ (l : List Nat), (∀ x ∈ l, x ≤ B) → l.sum ≤ B * l.length
  | [], _ => by simp
  | x :: l, h => by
    have h1 := h x List.mem_cons_self
    have h2 := sum_bound l fun y hy => h y (List.mem_cons_of_mem _ hy)
    rw [List.sum_cons, List.length_cons, Nat.mul_succ]
    omega
theorem tape_ne {H : Hp} {tp l : Addr} {ns : List Int} {i c m n : Int} (h1 : H tp = some (.lst [.ref l, .int i, .int c, .int m, .int n])) (h2 : H l = some (.lst (ns.map V.int))) : l ≠ tp := fun e => by
  rw [e, h1] at h2
  cases ns with
  | nil => cases h2
  | cons a r => cases h2
theorem at_getD {L : List Int} {k : Nat} (h : k < L.length) : atI (L.map V.int) (k : Int) = some (V.int (L.getD k 0)) := by
  refine atI_nat ?_
  rw [List.getElem?_map, List.getD_eq_getElem?_getD, List.getElem?_eq_getElem h]
  rfl
theorem ixN_nat {n k : Nat} (h : k < n) : ixN n (k : Int) = some k := by
  unfold ixN
  rw [if_pos (by omega), if_pos (by omega)]
  rfl
theorem in_ints (n : Int) : ∀ ns : List Int, inV (.int n) (ns.map V.int) = decide (n ∈ ns)
  | [] => rfl
  | m :: ns => by
    have ih := in_ints n ns
    unfold inV at ih ⊢
    rw [List.map_cons, List.any_cons, ih]
    have e : eqV (V.int m) (V.int n) = decide (m = n) := by
      show (m == n) = decide (m = n)
      by_cases h : m = n
      · rw [decide_eq_true h, h]
        exact beq_self_eq_true n
      · rw [decide_eq_false h]
        exact beq_eq_false_iff_ne.mpr h
    rw [e]
    by_cases h : m = n
    · subst h
      simp
    · have h' : ¬ n = m := fun z => h z.symm
      simp [h, h']
theorem flat_ints (ns : List Int) : (ns.map V.int).all flatV = true := by
  rw [List.all_map]
  exact List.all_eq_true.mpr fun _ _ => rfl
end Nm
namespace NmD
open PySem PySem.Spec PyProof.Rows L2 PySem.W PySem.SeqAt
mutual
/-- no list and no dict in it -/
def pureD : PyData → Bool
  | .none => true
  | .bool _ => true
  | .int _ => true
  | .str _ => true
  | .list _ => false
  | .tuple xs => pureAll xs
  | .dict _ => false
def pureAll : List PyData → Bool
  | [] => true
  | x :: xs => pureD x && pureAll xs
end
def Tups (h h' : Heap) : Prop := ∀ b o, h.get? b = some o → o.cls = .type "tuple" → h'.get? b = some o
mutual
theorem reads_keep {h h' : Heap} (kp : Tups h h') : ∀ (d : PyData) (v : Value) (as : List Addr), pureD d = true → Reads h v d as → ∃ bs, Reads h' v d bs
  | .none, _, _, _, r => by
    cases r
    exact ⟨_, .none⟩
  | .bool b, _, _, _, r => by
    cases r
    exact ⟨_, .bool b⟩
  | .int i, _, _, _, r => by
    cases r
    exact ⟨_, .int i _⟩
  | .str x, _, _, _, r => by
    cases r
    exact ⟨_, .str x _⟩
  | .list xs, _, _, p, _ => by
    unfold pureD at p
    cases p
  | .dict xs, _, _, p, _ => by
    unfold pureD at p
    cases p
  | .tuple xs, _, _, p, r => by
    cases r with
    | tuple h1 h2 h3 h4 =>
      obtain ⟨bs, q⟩ := reads_keepA kp xs _ _ (by unfold pureD at p; exact p) h4
      exact ⟨bs, .tuple (kp _ _ h1 h2) h2 h3 q⟩
theorem reads_keepA {h h' : Heap} (kp : Tups h h') : ∀ (ds : List PyData) (vs : List Value) (as : List Addr), pureAll ds = true → ReadsAll h vs ds as → ∃ bs, ReadsAll h' vs ds bs
  | [], _, _, _, r => by
    cases r
    exact ⟨_, .nil⟩
  | d :: ds, _, _, p, r => by
    cases r with
    | cons r1 r2 =>
      unfold pureAll at p
      rw [Bool.and_eq_true] at p
      obtain ⟨b1, q1⟩ := reads_keep kp d _ _ p.1 r1
      obtain ⟨b2, q2⟩ := reads_keepA kp ds _ _ p.2 r2
      exact ⟨_, .cons q1 q2⟩
end
/-- the first item of each -/
def Firsts (h : Heap) : List Value → List (Option Value) → Prop
  | [], [] => True
  | v :: vs, f :: fs => (∃ a o xs n, v = .ref a ∧ h.get? a = some o ∧ o.cls = .type "tuple" ∧ o.data = .seq xs n ∧ xs[0]? = f) ∧ Firsts h vs fs
  | _, _ => False
section
variable {M : Model} {A : Around} {E : Value → Shared → Prop} {s : Shared}
theorem firsts_run : ∀ (vs : List Value) (fs : List (Option Value)) {Q : List (Option Value) → Shared → Prop}, Firsts s.heap vs fs → Q fs s → wpAny M A (vs.mapM firstOfTuple') Q E s
  | [], [], _, _, h => by rw [List.mapM_nil]; exact wpAny_pure h
  | [], _ :: _, _, t, _ => t.elim
  | _ :: _, [], _, t, _ => t.elim
  | v :: vs, f :: fs, Q, t, h => by
    obtain ⟨⟨a, o, xs, n, rfl, ho, hc, hd, hf⟩, t⟩ := t
    rw [List.mapM_cons]
    refine wpAny_bind ?_
    rw [kas_first_eq]
    refine wpAny_bind (Looks.here (show Looks M s.heap (typeOf (.ref a)) o.cls from (Looks.ld ho).andThen .now) ?_)
    rw [hc, if_neg (by first | decide | simp)]
    refine wpAny_bind (listItems_at ho hd (wpAny_pure ?_))
    rw [hf]
    exact wpAny_bind (firsts_run vs fs (Q := fun bs s' => wpAny M A (pure (f :: bs)) Q E s') t (wpAny_pure h))
theorem firsts_typ : ∀ {vs : List Value} {fs : List (Option Value)}, Firsts s.heap vs fs → ∀ v ∈ vs, Looks M s.heap (typeOf v) (.type "tuple")
  | [], _, _, v, hv => absurd hv (List.not_mem_nil)
  | _ :: _, [], t, _, _ => t.elim
  | u :: us, f :: fs, t, v, hv => by
    obtain ⟨⟨a, o, xs, n, rfl, ho, hc, hd, hf⟩, t⟩ := t
    rcases List.mem_cons.mp hv with rfl | hv
    · have L : Looks M s.heap (typeOf (.ref a)) o.cls := (Looks.ld ho).andThen .now
      rw [hc] at L
      exact L
    · exact firsts_typ t v hv
/-- an empty one among them -/
theorem kind_mix {vs : List Value} {fs : List (Option Value)} {Q : SortKind → Shared → Prop} (t : Firsts s.heap vs fs) (hn : (fs.toArray.all fun x => x.isSome) = false) (h : ∀ κ, κ = general' ∨ κ = oneType' → Q κ s) :
    wpAny M A (keyKind' vs.toArray) Q E s := by
  rw [kat_kind_eq, List.mapM_toArray, map_eq_pure_bind]
  refine wpAny_bind (wpAny_bind (firsts_run vs _ t (wpAny_pure ?_)))
  rw [if_neg (by rw [hn]; exact Bool.false_ne_true)]
  refine wpAny_ite ?_
  split
  · exact wpAny_pure (h _ (.inl rfl))
  · rw [oneTypeOnly'_eq, List.mapM_toArray, map_eq_pure_bind]
    refine wpAny_bind (wpAny_bind (wpAny_bind (kas_mapM (r := Value.type "tuple") _ (fun v hv Q' hq => (firsts_typ t v hv).here hq) (wpAny_pure ?_))))
    split
    · split
      · exact wpAny_pure (wpAny_pure (h _ (.inr rfl)))
      · exact wpAny_pure (wpAny_pure (h _ (.inl rfl)))
    · exact wpAny_pure (wpAny_pure (h _ (.inl rfl)))
theorem kat_of : ∀ {vs : List Value} {fs : List (Option Value)}, Firsts s.heap vs fs → (fs.toArray.all fun x => x.isSome) = true → ∃ gs, fs = gs.map some ∧ KatTups s.heap vs gs
  | [], [], _, _ => ⟨[], rfl, KatTups.nil⟩
  | [], _ :: _, t, _ => t.elim
  | _ :: _, [], t, _ => t.elim
  | v :: vs, f :: fs, t, e => by
    obtain ⟨⟨a, o, xs, n, rfl, ho, hc, hd, hf⟩, t⟩ := t
    have e' : f.isSome = true ∧ (fs.all fun x => x.isSome) = true := by simpa using e
    obtain ⟨gs, rfl, kt⟩ := kat_of t (by simpa using e'.2)
    obtain ⟨g, rfl⟩ := Option.isSome_iff_exists.mp e'.1
    exact ⟨g :: gs, rfl, ⟨a, o, xs, n, rfl, ho, hc, hd, hf⟩, kt⟩
end
def tyD : PyData → String
  | .int _ => "int"
  | .str _ => "str"
  | .tuple _ => "tuple"
  | .bool _ => "bool"
  | .none => "NoneType"
  | .list _ => "list"
  | .dict _ => "dict"
section
variable {prog : Program} {w : World} {A : Around} {E : Value → Shared → Prop} {s : Shared}
theorem look_ty {M : Model} {h : Heap} {z : PyData} {v : Value} {as : List Addr} (p : pureD z = true) (r : Reads h v z as) : Looks M h (typeOf v) (.type (tyD z)) := by
  cases r with
  | none => exact Looks.now
  | bool b => exact Looks.now
  | int i t => exact Looks.now
  | str x t => exact Looks.now
  | list _ _ _ _ =>
    unfold pureD at p
    cases p
  | dict _ _ _ _ _ =>
    unfold pureD at p
    cases p
  | @tuple a o vs n xs as h1 h2 h3 h4 =>
    have L : Looks M h (typeOf (.ref a)) o.cls := (Looks.ld h1).andThen .now
    rw [h2] at L
    exact L
theorem alike_ty {x y : PyData} (h : alike x y = true) : tyD x = tyD y := by
  cases x <;> cases y <;> first | rfl | exact absurd h (by simp [alike])
/-- what is known of the items: tuples, as k tells, of such data, any two of them alike -/
structure Rows (h : Heap) (vs : List Value) (k : Value → List PyData) : Prop where
  rd : ∀ v ∈ vs, ∃ as, Reads h v (.tuple (k v)) as
  pu : ∀ v ∈ vs, pureAll (k v) = true
  al : ∀ v ∈ vs, ∀ u ∈ vs, alikeAll (k v) (k u) = true
  dp : ∀ v ∈ vs, PyData.depthAll (k v) ≤ 40
abbrev ltD (k : Value → List PyData) (v u : Value) : Bool := PyProof.Rows.lexLt itemOrd (keyToksAll (k v)) (keyToksAll (k u))
theorem ltD_swo (k : Value → List PyData) : SrtO.Swo (ltD k) := by
  refine ⟨fun x y h => ?_, fun x y z h1 h2 => ?_⟩
  · cases e : ltD k y x with
    | false => rfl
    | true =>
      have z := (listOrd itemOrd).trans _ _ _ h e
      rw [(listOrd itemOrd).irrefl] at z
      cases z
  · cases e : ltD k z x with
    | false => rfl
    | true =>
      rcases (listOrd itemOrd).negTrans _ (keyToksAll (k y)) _ e with q | q
      · rw [show ltD k z y = true from q] at h2
        cases h2
      · rw [show ltD k y x = true from q] at h1
        cases h1
theorem Rows.keep {h h' : Heap} {vs : List Value} {k : Value → List PyData} (R : Rows h vs k) (kp : Tups h h') : Rows h' vs k :=
  ⟨fun v hv => by
    obtain ⟨as, r⟩ := R.rd v hv
    exact reads_keep kp _ _ _ (by unfold pureD; exact R.pu v hv) r, R.pu, R.al, R.dp⟩
theorem rows_firsts {h : Heap} : ∀ {vs : List Value} {k : Value → List PyData}, Rows h vs k → ∃ fs, Firsts h vs fs ∧ ∀ f ∈ fs, ∀ g, f = some g → ∃ v ∈ vs, ∃ z r as, k v = z :: r ∧ Reads h g z as
  | [], _, _ => ⟨[], trivial, fun f hf => absurd hf (List.not_mem_nil)⟩
  | v :: vs, k, R => by
    obtain ⟨fs, t, q⟩ := rows_firsts (vs := vs) (k := k) ⟨fun u hu => R.rd u (List.mem_cons_of_mem _ hu), fun u hu => R.pu u (List.mem_cons_of_mem _ hu), fun u hu x hx => R.al u (List.mem_cons_of_mem _ hu) x (List.mem_cons_of_mem _ hx), fun u hu => R.dp u (List.mem_cons_of_mem _ hu)⟩
    obtain ⟨as, r⟩ := R.rd v List.mem_cons_self
    generalize hd : k v = d at r
    cases r with
    | @tuple a o xs n ds as h1 h2 h3 h4 =>
      refine ⟨xs[0]? :: fs, ⟨⟨a, o, xs, n, rfl, h1, h2, h3, rfl⟩, t⟩, fun f hf g e => ?_⟩
      rcases List.mem_cons.mp hf with rfl | hf
      · obtain ⟨xl⟩ := xs
        cases h4 with
        | nil => simp at e
        | @cons v0 vs0 d0 ds0 a0 b0 r1 r2 =>
          have e' : v0 = g := by simpa using e
          subst e'
          exact ⟨.ref a, List.mem_cons_self, _, _, _, hd, r1⟩
      · obtain ⟨u, hu, z⟩ := q f hf g e
        exact ⟨u, List.mem_cons_of_mem _ hu, z⟩
theorem call_tuple_lt {Q : Value → Shared → Prop} {l b : Addr} {items items2 : Array Value} {e r : Nat → Bool} (hl : s.heap.IsTuple l items) (hb : s.heap.IsTuple b items2)
    (he : ∀ j (h1 : j < items.size) (h2 : j < items2.size), EqAt A.in1 s items[j] items2[j] (e j)) (hr : ∀ j (h1 : j < items.size) (h2 : j < items2.size), e j = false → RcLt A.in1 s items[j] items2[j] (r j))
    (h : Q (.bool (firstLt e r (decide (items.size < items2.size)) (List.range (min items.size items2.size)))) s) : wpAny (model prog w) A (call (.builtin "tuple.__lt__") [.ref l, .ref b]) Q E s := by
  obtain ⟨⟨cls, dd, data, sl⟩, ho, hc, n, hd⟩ := id hl
  obtain ⟨⟨cls2, dd2, data2, sl2⟩, ho2, hc2, n2, hd2⟩ := id hb
  simp only at hc hd hc2 hd2
  subst hc hd hc2 hd2
  exact call_meets F.slot_tuple_lt ⟨_, ho, rfl⟩ F.entry_tuple_lt (F.args_tuple_lt_2 _ _) (PySem.SeqAt.tuple_ltAt l b items items2 n n2 dd dd2 sl sl2 e r) ⟨ho, ho2, he, hr, h⟩
theorem one_tup {xs ys : List PyData} {a b : Value} {as bs : List Addr} {Q : Bool → Shared → Prop} (f : Bool) (ra : Reads s.heap a (.tuple xs) as) (rb : Reads s.heap b (.tuple ys) bs) (hal : alikeAll xs ys = true)
    (hu : A.units + min (PyData.tuple xs).depth (PyData.tuple ys).depth < cLine) (hq : Q (PyProof.Rows.lexLt itemOrd (keyToksAll xs) (keyToksAll ys)) s) : wpAny (model prog w) A (oneLt' f a b) Q E s := by
  cases f with
  | false => exact oneLt_alike (fun z => absurd z Bool.false_ne_true) ra rb (by simpa [alike] using hal) (fun z => nomatch z) hu (by rw [dataLt_tuple]; exact hq)
  | true =>
    cases ra with
    | @tuple l o vs n _ as₁ h1 h2 h3 h4 =>
      cases rb with
      | @tuple l' o' vs' n' _ bs₁ k1 k2 k3 k4 =>
        have n1 : vs.size = xs.length := by simpa using ReadsAll.length _ _ _ h4
        have n2 : vs'.size = ys.length := by simpa using ReadsAll.length _ _ _ k4
        rw [← firstLt_toks xs ys hal, ← n1, ← n2] at hq
        rw [oneLt'_eq]
        simp only [if_true]
        refine wpAny_bind (wpAny_cRoomFor (room_here hu) ?_)
        refine wpAny_bind (wpAny_callSpecialIfBound?_slot (T := "tuple") ⟨_, h1, h2⟩ F.slot_tuple_lt (call_tuple_lt (e := pairEq xs ys) (r := fun j => dataLt (xs.getD j .none) (ys.getD j .none)) ⟨_, h1, h2, _, h3⟩ ⟨_, k1, k2, _, k3⟩ (fun j j1 j2 => ?_) (fun j j1 j2 hj => ?_) ?_))
        · have := eqAt_alikeAll xs ys A.in1 s vs.toList vs'.toList _ _ h4 k4 hal (room_in hu) j (by simpa using j1) (by simpa using j2)
          simpa using this
        · have := rcLt_alikeAll xs ys A.in1 s vs.toList vs'.toList _ _ h4 k4 hal (room_in hu) j (by simpa using j1) (by simpa using j2) hj
          simpa using this
        · exact wpAny_truthy_bool hq
theorem dep (xs ys : List PyData) (h : PyData.depthAll xs ≤ 40) : min (PyData.tuple xs).depth (PyData.tuple ys).depth ≤ 41 := by
  have e : (PyData.tuple xs).depth = PyData.depthAll xs + 1 := by first | rfl | simp [PyData.depth]
  omega
theorem cmp_rows {vs : List Value} {k : Value → List PyData} {κ : SortKind} (R : Rows s.heap vs k) (hu : A.units + 64 < cLine) (hk : κ = general' ∨ κ = oneType' ∨ ∃ b, κ = tuples' b ∧ (b = true → ∀ v ∈ vs, ∀ z r t, k v = z :: r → z ≠ .tuple t)) :
    SrtO.Cmp prog w A s κ (fun p => p.1 ∈ vs) (SrtO.lt2 (ltD k)) := by
  intro p q hp hq
  obtain ⟨as, ra⟩ := R.rd _ hp
  obtain ⟨bs, rb⟩ := R.rd _ hq
  have al := R.al _ hp _ hq
  have d := dep (k p.1) (k q.1) (R.dp _ hp)
  rcases hk with rfl | rfl | ⟨b, rfl, hb⟩
  · exact one_tup false ra rb al (by omega) ⟨rfl, rfl⟩
  · exact one_tup true ra rb al (by omega) ⟨rfl, rfl⟩
  · have hf := hb
    generalize hx : k p.1 = xs at ra
    generalize hy : k q.1 = ys at rb
    have dx := R.dp _ hp
    have dl : ltD k p.1 q.1 = PyProof.Rows.lexLt itemOrd (keyToksAll xs) (keyToksAll ys) := by rw [← hx, ← hy]
    rw [hx] at dx al
    rw [hy] at al
    show wpAny (model prog w) A (keyLt' (tuples' b) p.1 q.1) (fun r s' => s' = s ∧ r = ltD k p.1 q.1) (fun _ _ => False) s
    rw [dl]
    have hfp := fun (z : b = true) => hf z p.1 hp
    generalize p.1 = pv at ra hfp hx
    generalize q.1 = qv at rb hy
    cases ra with
    | @tuple l o vs n _ as₁ h1 h2 h3 h4 =>
      cases rb with
      | @tuple l' o' vs' n' _ bs₁ k1 k2 k3 k4 =>
        have n1 : vs.size = xs.length := by simpa using ReadsAll.length _ _ _ h4
        have n2 : vs'.size = ys.length := by simpa using ReadsAll.length _ _ _ k4
        refine kat_lt h1 h3 k1 k3 ?_
        refine katLex_alike xs ys 0 _ _ _ _ h4 k4 al (by omega) (fun z _ x r t e => hfp z x r t (by rw [hx, e])) (by rw [n1, n2]) ⟨rfl, rfl⟩
theorem rows_sortable {a : Addr} {vs : List Value} {k : Value → List PyData} (R : Rows s.heap vs k) (hu : A.units + 64 < cLine) (h0 : 0 < vs.length) (ha : ∀ o, s.heap.get? a = some o → o.cls ≠ .type "tuple") : SrtO.SortableO prog w A s a vs (ltD k) := by
  intro h' keep
  have R' : Rows h' vs k := R.keep fun b o e c => keep b o (fun z => by subst z; exact ha o e c) e
  obtain ⟨fs, t, q⟩ := rows_firsts R'
  cases e : (fs.toArray.all fun x => x.isSome) with
  | false =>
    have hne : ∃ κ, (κ = general' ∨ κ = oneType') ∧ ∀ (Q : SortKind → Shared → Prop) (E : Value → Shared → Prop), Q κ { s with heap := h' } → wpAny (model prog w) A (keyKind' vs.toArray) Q E { s with heap := h' } := by
      by_cases c : (fs.toArray[0]?.bind id).isSome = true
      · refine ⟨general', .inl rfl, fun Q E hq => ?_⟩
        rw [kat_kind_eq, List.mapM_toArray, map_eq_pure_bind]
        refine wpAny_bind (wpAny_bind (firsts_run vs _ t (wpAny_pure ?_)))
        rw [if_neg (by rw [e]; exact Bool.false_ne_true), if_pos c]
        exact wpAny_pure hq
      · refine ⟨oneType', .inr rfl, fun Q E hq => ?_⟩
        rw [kat_kind_eq, List.mapM_toArray, map_eq_pure_bind]
        refine wpAny_bind (wpAny_bind (firsts_run vs _ t (wpAny_pure ?_)))
        rw [if_neg (by rw [e]; exact Bool.false_ne_true), if_neg c]
        rw [oneTypeOnly'_eq, List.mapM_toArray, map_eq_pure_bind]
        refine wpAny_bind (wpAny_bind (wpAny_bind (kas_mapM (r := Value.type "tuple") _ (fun v hv Q' hq => (firsts_typ (s := { s with heap := h' }) t v hv).here hq) (wpAny_pure ?_))))
        obtain ⟨v1, vr, rfl⟩ : ∃ v1 vr, vs = v1 :: vr := by
          match vs, h0 with
          | v1 :: vr, _ => exact ⟨v1, vr, rfl⟩
        have hall : ((List.map (fun _ => Value.type "tuple") (v1 :: vr)).toArray.all fun x => x == Value.type "tuple") = true := by
          simp only [List.all_toArray, List.all_map, List.all_eq_true]
          intro _ _
          exact (by rfl : (Value.type "tuple" == Value.type "tuple") = true)
        have hz : (List.map (fun _ => Value.type "tuple") (v1 :: vr)).toArray[0]? = some (Value.type "tuple") := by simp
        rw [hz]
        simp only [hall, if_true]
        exact wpAny_pure (wpAny_pure hq)
    obtain ⟨κ, hκ, run⟩ := hne
    exact ⟨κ, run, cmp_rows (s := { s with heap := h' }) R' hu (by rcases hκ with z | z; exact .inl z; exact .inr (.inl z))⟩
  | true =>
    obtain ⟨gs, rfl, kt⟩ := kat_of (s := { s with heap := h' }) t e
    have lg : gs.length = vs.length := by
      have l : ∀ {us : List Value} {gs : List Value}, KatTups h' us gs → gs.length = us.length := by
        intro us
        induction us with
        | nil =>
          intro gs t
          cases gs with
          | nil => rfl
          | cons _ _ => exact t.elim
        | cons u us ih =>
          intro gs t
          cases gs with
          | nil => exact t.elim
          | cons g gs => rw [List.length_cons, List.length_cons, ih t.2]
      exact l kt
    obtain ⟨g1, gr, rfl⟩ : ∃ g1 gr, gs = g1 :: gr := by
      match gs, (show 0 < gs.length by omega) with
      | g1 :: gr, _ => exact ⟨g1, gr, rfl⟩
    obtain ⟨v1, hv1, z1, r1, as1, e1, rd1⟩ := q (some g1) (by simp) g1 rfl
    have same : ∀ v ∈ vs, ∀ z r, k v = z :: r → tyD z = tyD z1 := fun v hv z r ez => by
      have a := R.al v hv v1 hv1
      rw [ez, e1] at a
      exact alike_ty (alike_all_cons a).1
    refine ⟨tuples' (Value.type (tyD z1) != Value.type "tuple"), fun Q E hq => ?_, cmp_rows (s := { s with heap := h' }) R' hu (.inr (.inr ⟨_, rfl, fun hb v hv z r t ez c => ?_⟩))⟩
    · refine kat_kind (T := .type (tyD z1)) kt (by simp) (fun f hf => ?_) (by simp) hq
      obtain ⟨v, hv, z, r, as, ez, rz⟩ := q (some f) (List.mem_map.mpr ⟨f, hf, rfl⟩) f rfl
      rw [← same v hv z r ez]
      refine look_ty ?_ rz
      have p := R.pu v hv
      rw [ez] at p
      unfold pureAll at p
      exact (Bool.and_eq_true _ _ ▸ p).1
    · have w := same v hv z r ez
      rw [c] at w
      rw [← w] at hb
      exact absurd hb (show ¬ ((Value.type "tuple" != Value.type "tuple") = true) by decide)
end
/-- x before y, as Python orders these tuples -/
abbrev ltV (k : V → List PyData) (x y : V) : Bool := PyProof.Rows.lexLt itemOrd (keyToksAll (k x)) (keyToksAll (k y))
theorem ltV_swo (k : V → List PyData) : SrtO.Swo (ltV k) := by
  refine ⟨fun x y h => ?_, fun x y z h1 h2 => ?_⟩
  · cases e : ltV k y x with
    | false => rfl
    | true =>
      have z := (listOrd itemOrd).trans _ _ _ h e
      rw [(listOrd itemOrd).irrefl] at z
      cases z
  · cases e : ltV k z x with
    | false => rfl
    | true =>
      rcases (listOrd itemOrd).negTrans _ (keyToksAll (k y)) _ e with q | q
      · rw [show ltV k z y = true from q] at h2
        cases h2
      · rw [show ltV k y x = true from q] at h1
        cases h1
/-- sorted(xs), xs a list of tuples (k tells them) of numbers, texts, tuples of these, any two of them alike: a new list, sorted, equal ones in their order -/
def rSortD (K : PySem.W.Frag) : List V → Hp → VK → Prop := fun vs H Q => ∃ (a : Addr) (xs : List V) (k : V → List PyData), vs = [V.ref a] ∧ SqL K H a xs ∧ (∀ x ∈ xs, (∃ t, x = V.ref t) ∧ Dp K H x (.tuple (k x)) ∧ pureAll (k x) = true ∧ PyData.depthAll (k x) ≤ 40) ∧
  (∀ x ∈ xs, ∀ y ∈ xs, alikeAll (k x) (k y) = true) ∧ ∀ ys p, SrtO.Srtd (ltV k) ys → SrtO.Stb (ltV k) ys xs → H p = none → Q (.ref p) (upd H p (.lst ys))
section
variable {X : Cx}
theorem cr_sortD (hu : X.A.units + 66 < cLine) : CallR X (.builtin "sorted") (rSortD X.K) := by
  intro pins s σ H vs us Q I r h
  obtain ⟨a, xs, k, rfl, hs, hx, al, q⟩ := h
  obtain ⟨its, rv, hl, hz⟩ := I.list hs
  obtain ⟨u, rfl, ru⟩ := vals1 r
  obtain rfl : u = Value.ref a := ru
  obtain ⟨e1, e2⟩ := refs_back rv fun x m => (hx x m).1
  have back : ∀ v ∈ its, backV v ∈ xs := fun v hv => by
    rw [e1]
    exact List.mem_map.mpr ⟨_, hv, rfl⟩
  have R : Rows s.heap its (fun u => k (backV u)) := ⟨fun v hv => by
      obtain ⟨t, rfl⟩ := e2 v hv
      exact Dp.reads I _ (backV (.ref t)) (.ref t) (hx _ (back _ hv)).2.1 rfl, fun v hv => (hx _ (back v hv)).2.2.1, fun v hv u hu => al _ (back v hv) _ (back u hu), fun v hv => (hx _ (back v hv)).2.2.2⟩
  refine SrtO.sorted_ord (ltv := ltD fun u => k (backV u)) (ltD_swo _) hl.isList (by rw [← rv.length]; exact hz) (fun h2 h₁ b hb kk => ?_) fun out h1 h2 => ?_
  · refine rows_sortable (s := { s with heap := h₁ }) (R.keep fun c o e _ => (kk c o e).2) (by show X.A.units + 1 + 1 + 64 < cLine; omega) (by omega) fun o e => ?_
    have e' : some o = some (seqObj "list" its.toArray 0) := e.symm.trans hb
    cases e'
    intro c
    exact absurd (Value.type.inj c) (by decide)
  · have h3 : ∀ u ∈ out, ∃ a, u = Value.ref a := fun u hu => e2 u (h2.perm.mem_iff.mp hu)
    obtain ⟨n, hn⟩ := PyProof.Rows.sortedAll_at s.heap its out.toArray
    have hb : SrtO.Stb (ltV k) (out.map backV) xs := by
      rw [e1]
      exact SrtO.Stb.map (ltV_swo k) backV h2
    refine ⟨.ref (s.heap.objs.size + 1), upd H (s.heap.objs.size + 1) (.lst (out.map backV)), I.laid (t' := s.toks) (fun b o e => PyProof.Rows.sortedAll_old e) (Nat.le_succ _) ⟨?_, out, n, vals_back h3, hn⟩, rfl, q _ _ (SrtO.srtd_map h1) hb (I.hok.fresh (Nat.le_succ _))⟩
    rw [hb.len]
    exact hz
end
end NmD
namespace Nm
open PySem PySem.Spec PyProof.Rows L2 NmD
/-! ### rows of words as data -/
abbrev rowL (ws : List Str) : List PyData := ws.map PyData.str
theorem rowL_nil : rowL [] = [] := rfl
theorem rowL_cons (w : Str) (ws : List Str) : rowL (w :: ws) = PyData.str w :: rowL ws := rfl
abbrev rowD (ws : List Str) : PyData := .tuple (rowL ws)
theorem dpAll_row {K : PySem.W.Frag} {H : Hp} : ∀ ws : List Str, DpAll K H (ws.map V.str) (rowL ws)
  | [] => .nil
  | w :: ws => .cons (.str w) (dpAll_row ws)
theorem dp_row {K : PySem.W.Frag} {H : Hp} {a : Addr} {ws : List Str} (h : H a = some (.tup (ws.map V.str))) : Dp K H (.ref a) (rowD ws) := .tup (SqT.of h) (dpAll_row ws)
theorem eqv_rowL : ∀ a b : List Str, PyData.eqvAll (rowL a) (rowL b) = decide (a = b)
  | [], [] => by simp [PyData.eqvAll]
  | [], _ :: _ => by simp [PyData.eqvAll]
  | _ :: _, [] => by simp [PyData.eqvAll]
  | x :: a, y :: b => by
    have ih := eqv_rowL a b
    rw [rowL_cons, rowL_cons, PyData.eqvAll, ih, PyData.eqv]
    by_cases h : x = y
    · subst h
      simp
    · simp [h]
theorem eqv_row (a b : List Str) : PyData.eqv (rowD a) (rowD b) = decide (a = b) := by rw [PyData.eqv, eqv_rowL]
theorem depth_rowL : ∀ ws : List Str, PyData.depthAll (rowL ws) = 0
  | [] => by simp [PyData.depthAll]
  | w :: ws => by
    rw [rowL_cons, PyData.depthAll, depth_rowL ws, PyData.depth]
    rfl
theorem lay_rowL : ∀ ws : List Str, (∀ z ∈ ws, PyData.canLay0 (.str z) = true) → PyData.canLayAll0 (rowL ws) = true
  | [], _ => by simp [PyData.canLayAll0]
  | w :: ws, h => by
    rw [rowL_cons, PyData.canLayAll0, h w List.mem_cons_self, lay_rowL ws fun z hz => h z (List.mem_cons_of_mem _ hz)]
    rfl
theorem shaped_row {ws : List Str} (h : ∀ z ∈ ws, PyData.canLay0 (.str z) = true) : SeqAt.shaped (rowD ws) = true := by
  unfold SeqAt.shaped
  rw [PyData.canLay0, lay_rowL ws h, PyData.depth, depth_rowL]
  decide
theorem pure_rowL : ∀ ws : List Str, pureAll (rowL ws) = true
  | [] => by simp [pureAll]
  | w :: ws => by
    rw [rowL_cons, pureAll, pure_rowL ws, pureD]
    rfl
theorem alike_rowL : ∀ a b : List Str, PySem.W.alikeAll (rowL a) (rowL b) = true
  | [], [] => by simp [PySem.W.alikeAll]
  | [], _ :: _ => by simp [PySem.W.alikeAll]
  | _ :: _, [] => by simp [PySem.W.alikeAll]
  | x :: a, y :: b => by
    rw [rowL_cons, rowL_cons, PySem.W.alikeAll, alike_rowL a b, PySem.W.alike]
    rfl
abbrev rowLt (a b : List Str) : Bool := PyProof.Rows.lexLt itemOrd (PySem.W.keyToksAll (rowL a)) (PySem.W.keyToksAll (rowL b))
theorem row_pre : ∀ (p a b : List Str), rowLt (p ++ a) (p ++ b) = rowLt a b
  | [], a, b => rfl
  | w :: p, a, b => by
    have ih := row_pre p a b
    unfold rowLt at ih ⊢
    rw [List.cons_append, List.cons_append, rowL_cons, rowL_cons, PySem.W.toks_all_cons, PySem.W.toks_all_cons, lex_self, PySem.W.lex_pre]
    exact ih
/-- a row comes before each that begins with it -/
theorem row_more (a : List Str) (w : Str) : rowLt a (a ++ [w]) = true := by
  have h := row_pre a [] [w]
  rw [List.append_nil] at h
  rw [h]
  unfold rowLt
  rw [rowL_nil, rowL_cons, PySem.W.toks_all_cons]
  simp only [PySem.W.keyToksAll]
  rw [lex_diff (O := itemOrd) (by simp)]
  rfl
/-! ### pieces of tuples -/
theorem sl_last {K : PySem.W.Frag} {H : Hp} {a : Addr} {xs : List V} {Q : VK} (h : H a = some (.tup xs)) (q : ∀ r H', Same H H' → H' r = some (.tup xs.dropLast) → Q (.ref r) H') : rSlA K (.ref a) none (some (-1)) H Q := by
  have s1 : HT.sIx xs.length xs.length (some (-1)) = xs.length - 1 := by
    show (if (-1 : Int) < 0 then ((-1 : Int) + (xs.length : Int)).toNat else min (-1 : Int).toNat xs.length) = xs.length - 1
    rw [if_pos (by decide)]
    omega
  refine ⟨a, xs, rfl, SqT.of h, fun z => ?_, fun z p hp => ?_⟩
  · have e := z.2
    rw [s1] at e
    have : xs = [] := List.eq_nil_of_length_eq_zero (by omega)
    subst this
    exact q a H (Same.refl H) h
  · refine q p _ (same_new hp) ?_
    rw [upd_same]
    unfold cutV
    rw [s1, HT.sIx_none, List.drop_zero, Nat.sub_zero, List.dropLast_eq_take]
theorem sl_take {K : PySem.W.Frag} {H : Hp} {a : Addr} {xs : List V} {k : Nat} {Q : VK} (h : H a = some (.tup xs)) (q : ∀ r H', Same H H' → H' r = some (.tup (xs.take k)) → Q (.ref r) H') : rSlA K (.ref a) none (some (k : Int)) H Q := by
  refine ⟨a, xs, rfl, SqT.of h, fun z => ?_, fun z p hp => ?_⟩
  · have e := z.2
    rw [HT.sIx_nat] at e
    refine q a H (Same.refl H) ?_
    rw [List.take_of_length_le (by omega)]
    exact h
  · refine q p _ (same_new hp) ?_
    rw [upd_same]
    unfold cutV
    rw [HT.sIx_nat, HT.sIx_none, List.drop_zero, Nat.sub_zero]
    by_cases c : k ≤ xs.length
    · rw [Nat.min_eq_left c]
    · rw [Nat.min_eq_right (by omega), List.take_of_length_le (Nat.le_refl _), List.take_of_length_le (by omega)]
theorem cat_tups {K : PySem.W.Frag} {H : Hp} {a b : Addr} {xs ys : List V} {Q : VK} (ha : H a = some (.tup xs)) (hb : H b = some (.tup ys)) (l : xs.length + ys.length ≤ 4000) (q : ∀ r H', Same H H' → H' r = some (.tup (xs ++ ys)) → Q (.ref r) H') : rCatA K (.ref a) (.ref b) H Q := by
  have b4 : (4000 : Nat) ≤ PySem.sizeLine := by decide
  refine ⟨a, b, xs, ys, rfl, rfl, SqT.of ha, SqT.of hb, by omega, fun e => ?_, fun _ e => ?_, fun _ _ p hp => q p _ (same_new hp) upd_same⟩
  · subst e
    exact q b H (Same.refl H) hb
  · subst e
    refine q a H (Same.refl H) ?_
    rw [List.append_nil]
    exact ha
/-! ### pairs of numbers -/
abbrev Pr := Int × Int
abbrev prD (p : Pr) : PyData := .tuple [.int p.1, .int p.2]
abbrev prsD (ps : List Pr) : PyData := .list (ps.map prD)
def PrAt (H : Hp) (x : V) (p : Pr) : Prop := ∃ t, x = .ref t ∧ H t = some (.tup [.int p.1, .int p.2])
theorem PrAt.mono {H H' : Hp} (k : ∀ a xs, H a = some (.tup xs) → H' a = some (.tup xs)) {x : V} {p : Pr} (h : PrAt H x p) : PrAt H' x p := by
  obtain ⟨t, e, h1⟩ := h
  exact ⟨t, e, k _ _ h1⟩
/-- a list of pairs -/
def PrsAt (H : Hp) (a : Addr) (ps : List Pr) : Prop := ∃ xs, H a = some (.lst xs) ∧ Paired (PrAt H) xs ps
theorem PrsAt.same {H H' : Hp} (g : Same H H') {a : Addr} {ps : List Pr} (h : PrsAt H a ps) : PrsAt H' a ps := by
  obtain ⟨xs, h1, h2⟩ := h
  exact ⟨xs, g _ _ h1, paired_mono (fun _ _ => PrAt.mono (same_tups g)) h2⟩
theorem dp_pr {K : PySem.W.Frag} {H : Hp} {x : V} {p : Pr} (h : PrAt H x p) : Dp K H x (prD p) := by
  obtain ⟨t, rfl, h1⟩ := h
  exact .tup (SqT.of h1) (.cons (.int _) (.cons (.int _) .nil))
theorem dp_prsL {K : PySem.W.Frag} {H : Hp} : ∀ {xs : List V} {ps : List Pr}, Paired (PrAt H) xs ps → DpAll K H xs (ps.map prD)
  | _, _, .nil => .nil
  | _, _, .cons h t => .cons (dp_pr h) (dp_prsL t)
theorem dp_prs {K : PySem.W.Frag} {H : Hp} {a : Addr} {ps : List Pr} (h : PrsAt H a ps) : Dp K H (.ref a) (prsD ps) := by
  obtain ⟨xs, h1, h2⟩ := h
  exact .lst (SqL.of h1) (dp_prsL h2)
theorem eqv_pr (p q : Pr) : PyData.eqv (prD p) (prD q) = decide (p = q) := by
  obtain ⟨a, b⟩ := p
  obtain ⟨c, d⟩ := q
  simp only [PyData.eqv, PyData.eqvAll]
  by_cases h1 : a = c <;> by_cases h2 : b = d <;> simp [h1, h2]
theorem eqv_prsL : ∀ ps qs : List Pr, PyData.eqvAll (ps.map prD) (qs.map prD) = decide (ps = qs)
  | [], [] => by simp [PyData.eqvAll]
  | [], _ :: _ => by simp [PyData.eqvAll]
  | _ :: _, [] => by simp [PyData.eqvAll]
  | p :: ps, q :: qs => by
    rw [List.map_cons, List.map_cons, PyData.eqvAll, eqv_prsL ps qs, eqv_pr]
    by_cases h1 : p = q <;> by_cases h2 : ps = qs <;> simp [h1, h2]
theorem eqv_prs (ps qs : List Pr) : PyData.eqv (prsD ps) (prsD qs) = decide (ps = qs) := by rw [PyData.eqv, eqv_prsL]
theorem any_pr (q : Pr) : ∀ ps : List Pr, ((ps.map prD).any fun z => PyData.eqv z (prD q)) = decide (q ∈ ps)
  | [] => by simp
  | p :: ps => by
    rw [List.map_cons, List.any_cons, any_pr q ps, eqv_pr]
    by_cases h : p = q
    · subst h
      simp
    · have h' : ¬ q = p := fun z => h z.symm
      simp [h, h']
theorem shaped_pr (p : Pr) : SeqAt.shaped (prD p) = true := by
  unfold SeqAt.shaped
  simp [PyData.canLay0, PyData.canLayAll0, PyData.depth, PyData.depthAll]
theorem lay_prsL : ∀ ps : List Pr, PyData.canLayAll0 (ps.map prD) = true ∧ PyData.depthAll (ps.map prD) ≤ 1
  | [] => by simp [PyData.canLayAll0, PyData.depthAll]
  | p :: ps => by
    obtain ⟨h1, h2⟩ := lay_prsL ps
    rw [List.map_cons, PyData.canLayAll0, h1, PyData.depthAll]
    refine ⟨by simp [PyData.canLay0, PyData.canLayAll0], ?_⟩
    have e : PyData.depth (prD p) ≤ 1 := by simp [PyData.depth, PyData.depthAll]
    omega
theorem shaped_prs (ps : List Pr) : SeqAt.shaped (prsD ps) = true := by
  unfold SeqAt.shaped
  obtain ⟨h1, h2⟩ := lay_prsL ps
  rw [PyData.canLay0, h1, PyData.depth, Bool.true_and]
  exact decide_eq_true (by omega)
end Nm
namespace Nm
open PySem PySem.Spec PyProof.Rows L2
theorem u65 {k : Nat} {A : Around} (r : Room k A) : A.units + 65 < cLine := by
  have := r.un
  omega
theorem u66 {k : Nat} {A : Around} (r : Room k A) : A.units + 66 < cLine := by
  have := r.un
  omega
/-! ### all pairs i < j with f, row by row -/
def rowUp (f : Nat → Nat → Bool) (i k : Nat) : List Pr := (((List.range k).map fun d => i + 1 + d).filter (f i)).map fun (j : Nat) => ((i : Int), (j : Int))
def pairsUp (f : Nat → Nat → Bool) (n m : Nat) : List Pr := (List.range m).flatMap fun i => rowUp f i (n - (i + 1))
abbrev pairsOf (f : Nat → Nat → Bool) (n : Nat) : List Pr := pairsUp f n n
theorem rowUp_one (f : Nat → Nat → Bool) (i k : Nat) : rowUp f i (k + 1) = rowUp f i k ++ (if f i (i + 1 + k) = true then [((i : Int), ((i + 1 + k : Nat) : Int))] else []) := by
  unfold rowUp
  rw [List.range_succ, List.map_append, List.filter_append, List.map_append]
  congr 1
  by_cases h : f i (i + 1 + k) = true
  · rw [if_pos h, List.map_singleton, List.filter_cons_of_pos h]
    rfl
  · rw [if_neg h, List.map_singleton, List.filter_cons_of_neg h]
    rfl
theorem pairsUp_one (f : Nat → Nat → Bool) (n m : Nat) : pairsUp f n (m + 1) = pairsUp f n m ++ rowUp f m (n - (m + 1)) := by
  unfold pairsUp
  rw [List.range_succ, List.flatMap_append]
  simp
theorem mem_rowUp {f : Nat → Nat → Bool} {i k : Nat} {p : Pr} : p ∈ rowUp f i k ↔ ∃ j : Nat, p = ((i : Int), (j : Int)) ∧ i < j ∧ j < i + 1 + k ∧ f i j = true := by
  unfold rowUp
  rw [List.mem_map]
  constructor
  · rintro ⟨j, hj, rfl⟩
    obtain ⟨h1, h2⟩ := List.mem_filter.mp hj
    obtain ⟨d, hd, rfl⟩ := List.mem_map.mp h1
    have := List.mem_range.mp hd
    exact ⟨_, rfl, by omega, by omega, h2⟩
  · rintro ⟨j, rfl, h1, h2, h3⟩
    exact ⟨j, List.mem_filter.mpr ⟨List.mem_map.mpr ⟨j - (i + 1), List.mem_range.mpr (by omega), by omega⟩, h3⟩, rfl⟩
theorem mem_pairsUp {f : Nat → Nat → Bool} {n m : Nat} {p : Pr} : p ∈ pairsUp f n m ↔ ∃ i j : Nat, p = ((i : Int), (j : Int)) ∧ i < j ∧ j < n ∧ i < m ∧ f i j = true := by
  unfold pairsUp
  rw [List.mem_flatMap]
  constructor
  · rintro ⟨i, hi, hp⟩
    obtain ⟨j, e, h1, h2, h3⟩ := mem_rowUp.mp hp
    exact ⟨i, j, e, h1, by omega, List.mem_range.mp hi, h3⟩
  · rintro ⟨i, j, rfl, h1, h2, h3, h4⟩
    exact ⟨i, List.mem_range.mpr h3, mem_rowUp.mpr ⟨j, rfl, h1, by omega, h4⟩⟩
theorem rowUp_congr {f g : Nat → Nat → Bool} {i k : Nat} (h : ∀ j, i < j → j < i + 1 + k → f i j = g i j) : rowUp f i k = rowUp g i k := by
  unfold rowUp
  congr 1
  refine List.filter_congr fun j hj => ?_
  obtain ⟨d, hd, rfl⟩ := List.mem_map.mp hj
  have := List.mem_range.mp hd
  exact h _ (by omega) (by omega)
theorem flat_congr {α β : Type} {f g : α → List β} : ∀ {l : List α}, (∀ x ∈ l, f x = g x) → l.flatMap f = l.flatMap g
  | [], _ => rfl
  | x :: l, h => by rw [List.flatMap_cons, List.flatMap_cons, h x List.mem_cons_self, flat_congr fun y hy => h y (List.mem_cons_of_mem _ hy)]
theorem pairsOf_congr {f g : Nat → Nat → Bool} {n : Nat} (h : ∀ i j, i < j → j < n → f i j = g i j) : pairsOf f n = pairsOf g n := by
  refine flat_congr fun i hi => rowUp_congr fun j h1 h2 => ?_
  exact h i j h1 (by omega)
theorem filter_rowUp (f : Nat → Nat → Bool) (c : Pr → Bool) (i k : Nat) : (rowUp f i k).filter c = rowUp (fun (i j : Nat) => f i j && c ((i : Int), (j : Int))) i k := by
  unfold rowUp
  rw [List.filter_map, List.filter_filter]
  congr 1
  refine List.filter_congr fun j _ => ?_
  show (c ((i : Int), (j : Int)) && f i j) = (f i j && c ((i : Int), (j : Int)))
  exact Bool.and_comm _ _
theorem filter_flat {α β : Type} (c : β → Bool) (f : α → List β) : ∀ l : List α, (l.flatMap f).filter c = l.flatMap fun x => (f x).filter c
  | [] => rfl
  | x :: l => by rw [List.flatMap_cons, List.flatMap_cons, List.filter_append, filter_flat c f l]
theorem filter_pairsOf (f : Nat → Nat → Bool) (c : Pr → Bool) (n : Nat) : (pairsOf f n).filter c = pairsOf (fun (i j : Nat) => f i j && c ((i : Int), (j : Int))) n := by
  unfold pairsOf pairsUp
  rw [filter_flat]
  exact flat_congr fun i _ => filter_rowUp f c i _
theorem rowUp_none {f : Nat → Nat → Bool} {i k : Nat} (h : ∀ j, i < j → j < i + 1 + k → f i j = false) : rowUp f i k = [] := by
  refine List.eq_nil_iff_forall_not_mem.mpr fun p hp => ?_
  obtain ⟨j, _, h1, h2, h3⟩ := mem_rowUp.mp hp
  rw [h j h1 h2] at h3
  cases h3
theorem rowUp_less {f : Nat → Nat → Bool} {i : Nat} : ∀ {k l : Nat}, l ≤ k → (∀ j, i + 1 + l ≤ j → j < i + 1 + k → f i j = false) → rowUp f i k = rowUp f i l
  | 0, l, h, _ => by
    have : l = 0 := by omega
    subst this
    rfl
  | k + 1, l, h, hf => by
    by_cases e : l = k + 1
    · rw [e]
    · rw [rowUp_one, rowUp_less (k := k) (l := l) (by omega) fun j h1 h2 => hf j h1 (by omega), hf (i + 1 + k) (by omega) (by omega)]
      simp
/-- of a joined hall: the first ones -/
theorem first_pairs (f : Nat → Nat → Bool) (n m : Nat) : (pairsOf f (n + m)).filter (fun p => decide (p.2 < (n : Int))) = pairsOf f n := by
  rw [filter_pairsOf]
  unfold pairsOf pairsUp
  rw [List.range_add, List.flatMap_append]
  have z : (List.map (fun x => n + x) (List.range m)).flatMap (fun i => rowUp (fun (i j : Nat) => f i j && decide (((i : Int), (j : Int)).2 < (n : Int))) i (n + m - (i + 1))) = [] := by
    refine List.eq_nil_iff_forall_not_mem.mpr fun p hp => ?_
    obtain ⟨i, hi, hp⟩ := List.mem_flatMap.mp hp
    obtain ⟨x, _, rfl⟩ := List.mem_map.mp hi
    obtain ⟨j, _, h1, h2, h3⟩ := mem_rowUp.mp hp
    rw [Bool.and_eq_true] at h3
    have := of_decide_eq_true h3.2
    have : (j : Int) < (n : Int) := this
    omega
  rw [z, List.append_nil]
  refine flat_congr fun i hi => ?_
  have hi' := List.mem_range.mp hi
  rw [rowUp_less (k := n + m - (i + 1)) (l := n - (i + 1)) (by omega) fun j h1 h2 => by
    rw [decide_eq_false (show ¬ ((j : Int) < (n : Int)) by omega), Bool.and_false]]
  refine rowUp_congr fun j h1 h2 => ?_
  rw [decide_eq_true (show ((j : Int) < (n : Int)) by omega), Bool.and_true]
/-- of a joined hall: the last ones, numbered anew -/
theorem last_pairs (f g : Nat → Nat → Bool) (n m : Nat) (h : ∀ i j, f (n + i) (n + j) = g i j) : ((pairsOf f (n + m)).filter (fun p => decide ((n : Int) ≤ p.1))).map (fun p => (p.1 - (n : Int), p.2 - (n : Int))) = pairsOf g m := by
  rw [filter_pairsOf]
  unfold pairsOf pairsUp
  rw [List.range_add, List.flatMap_append]
  have z : (List.range n).flatMap (fun i => rowUp (fun (i j : Nat) => f i j && decide ((n : Int) ≤ ((i : Int), (j : Int)).1)) i (n + m - (i + 1))) = [] := by
    refine List.eq_nil_iff_forall_not_mem.mpr fun p hp => ?_
    obtain ⟨i, hi, hp⟩ := List.mem_flatMap.mp hp
    obtain ⟨j, _, h1, h2, h3⟩ := mem_rowUp.mp hp
    rw [Bool.and_eq_true] at h3
    have := of_decide_eq_true h3.2
    have : (n : Int) ≤ (i : Int) := this
    have := List.mem_range.mp hi
    omega
  rw [z, List.nil_append, List.map_flatMap, List.flatMap_map]
  refine flat_congr fun i hi => ?_
  have e : n + m - (n + i + 1) = m - (i + 1) := by omega
  rw [e]
  unfold rowUp
  rw [List.map_map]
  have r : (List.range (m - (i + 1))).map (fun d => n + i + 1 + d) = ((List.range (m - (i + 1))).map (fun d => i + 1 + d)).map (fun j => n + j) := by
    rw [List.map_map]
    refine List.map_congr_left fun d _ => ?_
    show n + i + 1 + d = n + (i + 1 + d)
    omega
  rw [r, List.filter_map, List.map_map]
  have c : List.filter ((fun (j : Nat) => f (n + i) j && decide ((n : Int) ≤ (((n + i : Nat) : Int), (j : Int)).1)) ∘ fun j => n + j) ((List.range (m - (i + 1))).map fun d => i + 1 + d) = List.filter (g i) ((List.range (m - (i + 1))).map fun d => i + 1 + d) := by
    refine List.filter_congr fun j _ => ?_
    show (f (n + i) (n + j) && decide ((n : Int) ≤ ((n + i : Nat) : Int))) = g i j
    rw [decide_eq_true (show (n : Int) ≤ ((n + i : Nat) : Int) by omega), Bool.and_true, h]
  rw [c]
  refine List.map_congr_left fun j _ => ?_
  show ((((n + i : Nat) : Int) - (n : Int)), (((n + j : Nat) : Int) - (n : Int))) = ((i : Int), (j : Int))
  rw [show (((n + i : Nat) : Int) - (n : Int)) = (i : Int) by omega, show (((n + j : Nat) : Int) - (n : Int)) = (j : Int) by omega]
/-! ### boards that are pairs -/
def rowExt (a b : List Str) : Bool := decide (b.dropLast = a) && decide (b.length = a.length + 1)
/-- one longer by a word that the longer one's master has played -/
def extOk (b c : Bd) : Bool := rowExt b.2.2 c.2.2 && !decide ((b.2.2.length : Int) % 2 = c.2.1)
def arePair (b c : Bd) : Bool := decide (b.1 = c.1) && (!decide (b.2.1 = c.2.1) && (decide (b.2.2 = c.2.2) || (extOk b c || extOk c b)))
def areApart (b c : Bd) : Bool := decide (b.1 = c.1) && (!decide (b.2.1 = c.2.1) && (rowExt b.2.2 c.2.2 || rowExt c.2.2 b.2.2))
def onB (f : Bd → Bd → Bool) (bs : List Bd) (i j : Nat) : Bool := match bs[i]?, bs[j]? with
  | some b, some c => f b c
  | _, _ => false
theorem onB_at {f : Bd → Bd → Bool} {bs : List Bd} {i j : Nat} {b c : Bd} (h1 : bs[i]? = some b) (h2 : bs[j]? = some c) : onB f bs i j = f b c := by
  unfold onB
  rw [h1, h2]
def turnB (b : Bd) : Bd := (b.1, 1 - b.2.1, b.2.2)
def sideOk (b : Bd) : Prop := b.2.1 = 0 ∨ b.2.1 = 1
theorem ext_ne {a b : List Str} (h : rowExt a b = true) : ¬ a = b := by
  unfold rowExt at h
  rw [Bool.and_eq_true] at h
  intro e
  subst e
  have := of_decide_eq_true h.2
  omega
theorem ext_one {a b : List Str} (h : rowExt a b = true) : rowExt b a = false := by
  unfold rowExt at h ⊢
  rw [Bool.and_eq_true] at h
  have := of_decide_eq_true h.2
  rw [decide_eq_false (show ¬ (a.length = b.length + 1) by omega), Bool.and_false]
theorem sideB {x : Int} {l : Nat} (h : x = 0 ∨ x = 1) : (decide ((l : Int) % 2 = 1 - x)) = !decide ((l : Int) % 2 = x) := by
  by_cases e : (l : Int) % 2 = x
  · rw [decide_eq_true e, decide_eq_false (show ¬ ((l : Int) % 2 = 1 - x) by omega)]
    rfl
  · rw [decide_eq_false e, decide_eq_true (show ((l : Int) % 2 = 1 - x) by omega)]
    rfl
theorem unlike_turn {b c : Bd} : decide ((turnB b).2.1 = (turnB c).2.1) = decide (b.2.1 = c.2.1) := by
  show decide (1 - b.2.1 = 1 - c.2.1) = decide (b.2.1 = c.2.1)
  by_cases e : b.2.1 = c.2.1
  · rw [decide_eq_true e, decide_eq_true (by omega)]
  · rw [decide_eq_false e, decide_eq_false (by omega)]
/-- turned about: those that begin alike are the same, of those one word apart just the others -/
theorem turn_pair {b c : Bd} (hb : sideOk b) (hc : sideOk c) : (areApart b c = false → arePair (turnB b) (turnB c) = arePair b c) ∧ (areApart b c = true → arePair (turnB b) (turnB c) = !arePair b c) := by
  have ub := unlike_turn (b := b) (c := c)
  have e1 : extOk (turnB b) (turnB c) = (rowExt b.2.2 c.2.2 && decide ((b.2.2.length : Int) % 2 = c.2.1)) := by
    show (rowExt b.2.2 c.2.2 && !decide ((b.2.2.length : Int) % 2 = 1 - c.2.1)) = _
    rw [sideB hc, Bool.not_not]
  have e2 : extOk (turnB c) (turnB b) = (rowExt c.2.2 b.2.2 && decide ((c.2.2.length : Int) % 2 = b.2.1)) := by
    show (rowExt c.2.2 b.2.2 && !decide ((c.2.2.length : Int) % 2 = 1 - b.2.1)) = _
    rw [sideB hb, Bool.not_not]
  unfold arePair areApart
  rw [ub, e1, e2]
  unfold extOk
  show (_ → (decide (b.1 = c.1) && _) = _) ∧ (_ → (decide (b.1 = c.1) && _) = _)
  cases n : decide (b.1 = c.1)
  · simp
  · cases s : decide (b.2.1 = c.2.1)
    · simp only [Bool.true_and, Bool.not_false]
      show (_ → (decide (b.2.2 = c.2.2) || _) = _) ∧ (_ → (decide (b.2.2 = c.2.2) || _) = _)
      cases x : rowExt b.2.2 c.2.2
      · cases y : rowExt c.2.2 b.2.2
        · simp
        · rw [decide_eq_false (fun e => ext_ne y e.symm)]
          simp
      · rw [ext_one x, decide_eq_false (ext_ne x)]
        simp
    · simp
/-! ### boards that are in order -/
def okB (b : Bd) : Prop := boardB b = true ∧ smallBd b
theorem lay_let {z : Str} {m : Int} (h : letB z m = true) : PyData.canLay0 (.str z) = true := by
  unfold letB at h
  rw [Bool.and_eq_true] at h
  have a := List.all_eq_true.mp h.2
  rw [PyData.canLay0]
  show z.cps.all (· < 0x110000) = true
  rw [Array.all_eq_true']
  intro c hc
  have := a c (by simpa using hc)
  rw [Bool.and_eq_true] at this
  have := of_decide_eq_true this.2
  exact decide_eq_true (by omega)
theorem okB.row {b : Bd} (h : okB b) : rowB b.2.2 20 = true := by
  have h1 := h.1
  unfold boardB at h1
  rw [Bool.and_eq_true, Bool.and_eq_true] at h1
  exact h1.2.2
theorem okB.lay {b : Bd} (h : okB b) : ∀ z ∈ b.2.2, PyData.canLay0 (.str z) = true := fun z hz => by
  have r := h.row
  unfold rowB at r
  rw [Bool.and_eq_true] at r
  exact lay_let (List.all_eq_true.mp r.2 z hz)
theorem okB.len {b : Bd} (h : okB b) : b.2.2.length ≤ 20 := by
  have r := h.row
  unfold rowB at r
  rw [Bool.and_eq_true] at r
  have := of_decide_eq_true r.1
  omega
theorem okB.side {b : Bd} (h : okB b) : sideOk b := by
  have h1 := h.1
  unfold boardB at h1
  rw [Bool.and_eq_true, Bool.and_eq_true] at h1
  have h2 : (decide (0 ≤ b.2.1) && decide (b.2.1 ≤ 1)) = true := h1.2.1
  rw [Bool.and_eq_true] at h2
  have a := of_decide_eq_true h2.1
  have c := of_decide_eq_true h2.2
  unfold sideOk
  omega
theorem okB.turn {b : Bd} (h : okB b) : okB (turnB b) := by
  have s := h.side
  have h1 := h.1
  unfold boardB at h1
  rw [Bool.and_eq_true, Bool.and_eq_true] at h1
  refine ⟨?_, h.2⟩
  show (letB b.1 8 && ((decide (0 ≤ 1 - b.2.1) && decide (1 - b.2.1 ≤ 1)) && rowB b.2.2 20)) = true
  unfold sideOk at s
  rw [h1.1, h1.2.2, decide_eq_true (show (0 : Int) ≤ 1 - b.2.1 by omega), decide_eq_true (show (1 : Int) - b.2.1 ≤ 1 by omega)]
  rfl
theorem decS {x y : Str} : decide (V.str x = V.str y) = decide (x = y) := by
  by_cases e : x = y
  · rw [e, decide_eq_true rfl, decide_eq_true rfl]
  · rw [decide_eq_false e, decide_eq_false fun z => e (V.str.inj z)]
theorem decI {x y : Int} : decide (V.int x = V.int y) = decide (x = y) := by
  by_cases e : x = y
  · rw [e, decide_eq_true rfl, decide_eq_true rfl]
  · rw [decide_eq_false e, decide_eq_false fun z => e (V.int.inj z)]
/-- what the program's own look at two boards comes to -/
theorem pair_short {b c : Bd} (n : b.1 = c.1) (s : ¬ b.2.1 = c.2.1) (l : b.2.2.length ≤ c.2.2.length) :
    arePair b c = (decide (b.2.2 = c.2.2) || (decide (c.2.2.dropLast = b.2.2) && !decide ((b.2.2.length : Int) % 2 = c.2.1))) := by
  unfold arePair extOk
  rw [decide_eq_true n, decide_eq_false s, Bool.true_and, Bool.not_false, Bool.true_and]
  by_cases e : b.2.2 = c.2.2
  · rw [decide_eq_true e, Bool.true_or, Bool.true_or]
  · rw [decide_eq_false e, Bool.false_or, Bool.false_or]
    have x2 : rowExt c.2.2 b.2.2 = false := by
      unfold rowExt
      rw [decide_eq_false (show ¬ (b.2.2.length = c.2.2.length + 1) by omega), Bool.and_false]
    have x1 : rowExt b.2.2 c.2.2 = decide (c.2.2.dropLast = b.2.2) := by
      unfold rowExt
      by_cases d : c.2.2.dropLast = b.2.2
      · rw [decide_eq_true d, Bool.true_and]
        refine decide_eq_true ?_
        have ld := congrArg List.length d
        rw [List.length_dropLast] at ld
        by_cases z : c.2.2.length = 0
        · exfalso
          have c0 : c.2.2 = [] := List.eq_nil_of_length_eq_zero z
          rw [c0] at d
          exact e (by rw [c0]; exact d.symm)
        · omega
      · rw [decide_eq_false d, Bool.false_and]
    rw [x1, x2, Bool.false_and, Bool.or_false]
theorem pair_swap (b c : Bd) : arePair b c = arePair c b := by
  unfold arePair
  rw [show decide (b.1 = c.1) = decide (c.1 = b.1) from decide_eq_decide.mpr eq_comm, show decide (b.2.1 = c.2.1) = decide (c.2.1 = b.2.1) from decide_eq_decide.mpr eq_comm, show decide (b.2.2 = c.2.2) = decide (c.2.2 = b.2.2) from decide_eq_decide.mpr eq_comm,
    Bool.or_comm (extOk b c) (extOk c b)]
theorem paired_take {α β : Type} {R : α → β → Prop} : ∀ {xs : List α} {ys : List β}, Paired R xs ys → ∀ n, Paired R (xs.take n) (ys.take n)
  | _, _, .nil, n => by
    rw [List.take_nil, List.take_nil]
    exact .nil
  | _, _, .cons r t, 0 => .nil
  | _, _, .cons r t, n + 1 => .cons r (paired_take t n)
theorem paired_app {α β : Type} {R : α → β → Prop} : ∀ {xs : List α} {ys : List β} {us : List α} {ws : List β}, Paired R xs ys → Paired R us ws → Paired R (xs ++ us) (ys ++ ws)
  | _, _, _, _, .nil, h => h
  | _, _, _, _, .cons r t, h => .cons r (paired_app t h)
theorem putF_len (f : Str) (y : V) : ∀ fs : List (Str × V), (putF f y fs).length ≤ fs.length + 1
  | [] => by simp [putF]
  | (g, z) :: fs => by
    have ih := putF_len f y fs
    unfold putF
    split
    · simp
    · rw [List.length_cons, List.length_cons]
      omega
theorem cutV_take (xs : List V) (k : Nat) : cutV xs none (some (k : Int)) = xs.take k := by
  unfold cutV
  rw [HT.sIx_nat, HT.sIx_none, List.drop_zero, Nat.sub_zero]
  by_cases c : k ≤ xs.length
  · rw [Nat.min_eq_left c]
  · rw [Nat.min_eq_right (by omega), List.take_of_length_le (Nat.le_refl _), List.take_of_length_le (by omega)]
end Nm
namespace K21
open PySem L2
def top (i : Nat) : Stmt := PySem.Challenge.pw_untoldgames_k21_whole_pairs_of_boards.main.body.getD i (.Pass ⟨0, 0, 0, 0⟩)
abbrev s_is_integer : Stmt := top 4
abbrev s_is_within : Stmt := top 5
abbrev s_is_side : Stmt := top 6
abbrev s_is_lettered : Stmt := top 7
abbrev s_is_name : Stmt := top 9
abbrev s_is_word : Stmt := top 8
abbrev s_is_words : Stmt := top 10
abbrev s_is_board : Stmt := top 18
abbrev s_names_of : Stmt := top 19
abbrev s_Hall___init__ : Stmt := inClass (top 20) 0
abbrev s__law_tape : Stmt := top 25
abbrev s__law_pick : Stmt := top 26
abbrev s_are_pair : Stmt := top 12
abbrev s_hall_of : Stmt := top 21
abbrev s_turned : Stmt := top 22
abbrev s_joined : Stmt := top 23
abbrev s_pairs_of : Stmt := top 13
abbrev s_pairs : Stmt := top 14
abbrev s__law_is : Stmt := top 27
abbrev s__law_some : Stmt := top 28
abbrev s__law_word : Stmt := top 29
abbrev s__law_line : Stmt := top 30
abbrev s__law_boards : Stmt := top 31
abbrev s__law_lengthened : Stmt := top 35
abbrev s__law_are_pair : Stmt := top 32
abbrev s__law_pairs : Stmt := top 33
abbrev s__law_apart : Stmt := top 34
abbrev s_law : Stmt := top 36
theorem sc_is_integer : FnScope ["thing"] ["thing"] (defScope s_is_integer) := ⟨rfl, rfl, rfl, by decide +kernel, rfl, by decide +kernel, by decide +kernel⟩
theorem sc_is_within : FnScope ["thing", "low", "high"] ["thing", "low", "high"] (defScope s_is_within) := ⟨rfl, rfl, rfl, by decide +kernel, rfl, by decide +kernel, by decide +kernel⟩
theorem sc_is_side : FnScope ["thing"] ["thing"] (defScope s_is_side) := ⟨rfl, rfl, rfl, by decide +kernel, rfl, by decide +kernel, by decide +kernel⟩
theorem sc_is_lettered : FnScope ["thing", "most", "sign"] ["thing", "most"] (defScope s_is_lettered) := ⟨rfl, rfl, rfl, by decide +kernel, rfl, by decide +kernel, by decide +kernel⟩
theorem sc_is_name : FnScope ["thing"] ["thing"] (defScope s_is_name) := ⟨rfl, rfl, rfl, by decide +kernel, rfl, by decide +kernel, by decide +kernel⟩
theorem sc_is_word : FnScope ["thing"] ["thing"] (defScope s_is_word) := ⟨rfl, rfl, rfl, by decide +kernel, rfl, by decide +kernel, by decide +kernel⟩
theorem sc_is_words : FnScope ["thing", "most", "word"] ["thing", "most"] (defScope s_is_words) := ⟨rfl, rfl, rfl, by decide +kernel, rfl, by decide +kernel, by decide +kernel⟩
theorem sc_is_board : FnScope ["thing", "name", "side", "begun"] ["thing"] (defScope s_is_board) := ⟨rfl, rfl, rfl, by decide +kernel, rfl, by decide +kernel, by decide +kernel⟩
theorem sc_names_of : FnScope ["boards", "board"] ["boards"] (defScope s_names_of) := ⟨rfl, rfl, rfl, by decide +kernel, rfl, by decide +kernel, by decide +kernel⟩
theorem sc_Hall___init__ : FnScope ["self", "boards", "at", "board"] ["self", "boards"] (defScope s_Hall___init__) := ⟨rfl, rfl, rfl, by decide +kernel, rfl, by decide +kernel, by decide +kernel⟩
theorem sc__law_tape : FnScope ["script"] ["script"] (defScope s__law_tape) := ⟨rfl, rfl, rfl, by decide +kernel, rfl, by decide +kernel, by decide +kernel⟩
theorem sc__law_pick : FnScope ["tape", "size", "digit", "cell", "mixed"] ["tape", "size"] (defScope s__law_pick) := ⟨rfl, rfl, rfl, by decide +kernel, rfl, by decide +kernel, by decide +kernel⟩
theorem sc_are_pair : FnScope ["one", "other", "shorter", "longer"] ["one", "other"] (defScope s_are_pair) := ⟨rfl, rfl, rfl, by decide +kernel, rfl, by decide +kernel, by decide +kernel⟩
theorem sc_hall_of : FnScope ["boards", "hall"] ["boards"] (defScope s_hall_of) := ⟨rfl, rfl, rfl, by decide +kernel, rfl, by decide +kernel, by decide +kernel⟩
theorem sc_turned : FnScope ["hall", "name", "side", "begun"] ["hall"] (defScope s_turned) := ⟨rfl, rfl, rfl, by decide +kernel, rfl, by decide +kernel, by decide +kernel⟩
theorem sc_joined : FnScope ["one", "other"] ["one", "other"] (defScope s_joined) := ⟨rfl, rfl, rfl, by decide +kernel, rfl, by decide +kernel, by decide +kernel⟩
theorem sc_pairs_of : FnScope ["boards", "found", "one", "other"] ["boards"] (defScope s_pairs_of) := ⟨rfl, rfl, rfl, by decide +kernel, rfl, by decide +kernel, by decide +kernel⟩
theorem sc_pairs : FnScope ["hall"] ["hall"] (defScope s_pairs) := ⟨rfl, rfl, rfl, by decide +kernel, rfl, by decide +kernel, by decide +kernel⟩
theorem sc__law_is : FnScope ["told", "due", "one", "two"] ["told", "due"] (defScope s__law_is) := ⟨rfl, rfl, rfl, by decide +kernel, rfl, by decide +kernel, by decide +kernel⟩
theorem sc__law_some : FnScope ["tape", "things"] ["tape", "things"] (defScope s__law_some) := ⟨rfl, rfl, rfl, by decide +kernel, rfl, by decide +kernel, by decide +kernel⟩
theorem sc__law_word : FnScope ["tape", "few"] ["tape"] (defScope s__law_word) := ⟨rfl, rfl, rfl, by decide +kernel, rfl, by decide +kernel, by decide +kernel⟩
theorem sc__law_line : FnScope ["tape", "many", "k"] ["tape", "many"] (defScope s__law_line) := ⟨rfl, rfl, rfl, by decide +kernel, rfl, by decide +kernel, by decide +kernel⟩
theorem sc__law_boards : FnScope ["tape", "most", "begun", "many", "names", "line", "other", "found", "k", "row"] ["tape", "most", "begun"] (defScope s__law_boards) := ⟨rfl, rfl, rfl, by decide +kernel, rfl, by decide +kernel, by decide +kernel⟩
theorem sc__law_lengthened : FnScope ["tape", "boards", "ahead", "name", "side", "row"] ["tape", "boards"] (defScope s__law_lengthened) := ⟨rfl, rfl, rfl, by decide +kernel, rfl, by decide +kernel, by decide +kernel⟩
theorem sc__law_are_pair : FnScope ["one", "other", "longer", "shorter"] ["one", "other"] (defScope s__law_are_pair) := ⟨rfl, rfl, rfl, by decide +kernel, rfl, by decide +kernel, by decide +kernel⟩
theorem sc__law_pairs : FnScope ["boards", "found", "one", "other"] ["boards"] (defScope s__law_pairs) := ⟨rfl, rfl, rfl, by decide +kernel, rfl, by decide +kernel, by decide +kernel⟩
theorem sc__law_apart : FnScope ["boards", "found", "one", "other", "rows"] ["boards"] (defScope s__law_apart) := ⟨rfl, rfl, rfl, by decide +kernel, rfl, by decide +kernel, by decide +kernel⟩
theorem sc_law : FnScope ["script", "tape", "turn", "boards", "hall", "due", "told", "around", "apart", "other", "both", "many", "pair", "one", "two"] ["script"] (defScope s_law) := ⟨rfl, rfl, rfl, by decide +kernel, rfl, by decide +kernel, by decide +kernel⟩
structure Txt (K : PySem.W.Frag) (mg : Str → Option Value) : Prop where
  d_is_integer : Nm.Top K mg "is_integer" s_is_integer
  d_is_within : Nm.Top K mg "is_within" s_is_within
  d_is_side : Nm.Top K mg "is_side" s_is_side
  d_is_lettered : Nm.Top K mg "is_lettered" s_is_lettered
  d_is_name : Nm.Top K mg "is_name" s_is_name
  d_is_word : Nm.Top K mg "is_word" s_is_word
  d_is_words : Nm.Top K mg "is_words" s_is_words
  d_is_board : Nm.Top K mg "is_board" s_is_board
  d_names_of : Nm.Top K mg "names_of" s_names_of
  d__law_tape : Nm.Top K mg "_law_tape" s__law_tape
  d__law_pick : Nm.Top K mg "_law_pick" s__law_pick
  d_are_pair : Nm.Top K mg "are_pair" s_are_pair
  d_hall_of : Nm.Top K mg "hall_of" s_hall_of
  d_turned : Nm.Top K mg "turned" s_turned
  d_joined : Nm.Top K mg "joined" s_joined
  d_pairs_of : Nm.Top K mg "pairs_of" s_pairs_of
  d_pairs : Nm.Top K mg "pairs" s_pairs
  d__law_is : Nm.Top K mg "_law_is" s__law_is
  d__law_some : Nm.Top K mg "_law_some" s__law_some
  d__law_word : Nm.Top K mg "_law_word" s__law_word
  d__law_line : Nm.Top K mg "_law_line" s__law_line
  d__law_boards : Nm.Top K mg "_law_boards" s__law_boards
  d__law_lengthened : Nm.Top K mg "_law_lengthened" s__law_lengthened
  d__law_are_pair : Nm.Top K mg "_law_are_pair" s__law_are_pair
  d__law_pairs : Nm.Top K mg "_law_pairs" s__law_pairs
  d__law_apart : Nm.Top K mg "_law_apart" s__law_apart
  d_law : Nm.Top K mg "law" s_law
  m_all : mg "all" = none
  m_any : mg "any" = none
  m_bool : mg "bool" = none
  m_enumerate : mg "enumerate" = none
  m_int : mg "int" = none
  m_isinstance : mg "isinstance" = none
  m_len : mg "len" = none
  m_list : mg "list" = none
  m_max : mg "max" = none
  m_range : mg "range" = none
  m_sorted : mg "sorted" = none
  m_str : mg "str" = none
  m_tuple : mg "tuple" = none
  m_zip : mg "zip" = none
  g_MOST_BEGUN : ∃ u, mg "MOST_BEGUN" = some u ∧ RelV (.int 20) u
  g_MOST_BOARDS : ∃ u, mg "MOST_BOARDS" = some u ∧ RelV (.int 12) u
  cls_Hall : ∃ C f fd, Cls K C ∧ Mk K C f ∧ mg "Hall" = some (.ref C) ∧ Fun K "__init__" "Hall.__init__" s_Hall___init__ f fd ∧ NoAttr K C "boards" ∧ NoAttr K C "names"
end K21
namespace K21
open PySem L2 Nm
open C8 (Cal Mak pe_c pe_mk pe_gc)
open RZ (ItzT pi_zipA)
section
variable {P : Program} {w : World} {K : PySem.W.Frag} {mg : Str → Option Value} {base : Heap}
def sp_is_integer (K : PySem.W.Frag) : Sp := fun vs H Q _ => ∃ (x : V), vs = [x] ∧ TyI K H x ∧ Q (.bl (isInt x)) H
theorem c_is_integer (T : Txt K mg) : Cal P w K mg base 1 "is_integer" (sp_is_integer K) [] := by
  have sc := sc_is_integer
  refine cal_of T.d_is_integer sc (fun _ _ _ _ _ _ us hl => match us, hl with | [_], _ => rfl) (fun vs H Q E h => ?_) (fun f cdv A outer s H vs Q E hr h => ?_)
  · obtain ⟨x, rfl, _⟩ := h
    rfl
  · obtain ⟨x, rfl, h⟩ := h
    refine ⟨_, (pss_one (ps_ret (pe_and (pe_callB call_isi rfl T.m_isinstance (by decide +kernel) (pa_cons (pv 0) (pa_cons (pe_bltn (v := .ty "int") (u := .type "int") rfl T.m_int (by decide +kernel) rfl) pa_nil))) (pe_one (pe_not (pe_callB call_isi rfl T.m_isinstance (by decide +kernel) (pa_cons (pv 0) (pa_cons (pe_bltn (v := .ty "bool") (u := .type "bool") rfl T.m_bool (by decide +kernel) rfl) pa_nil)))))))), ?_⟩
    obtain ⟨⟨b, c, ⟨t, h1, h2⟩, ⟨u, h3, h4⟩, e⟩, q⟩ := h
    refine ⟨_, rfl, _, _, t, _, b, rfl, .ty _, h1, h2, b, rfl, ?_⟩
    cases b with
    | false =>
      refine iteF ?_
      rw [← e] at q
      exact q
    | true =>
      refine iteT ⟨_, rfl, _, _, u, _, c, rfl, .ty _, h3, h4, c, rfl, ?_⟩
      rw [← e] at q
      exact q
end
end K21
namespace K21
open PySem L2 Nm
open C8 (Cal Mak pe_c pe_mk pe_gc)
open RZ (ItzT pi_zipA)
section
variable {P : Program} {w : World} {K : PySem.W.Frag} {mg : Str → Option Value} {base : Heap}
def sp_is_within (K : PySem.W.Frag) : Sp := fun vs H Q _ => ∃ (x : V) (lo hi : Int), vs = [x, .int lo, .int hi] ∧ TyI K H x ∧ Q (.bl (within x lo hi)) H
theorem c_is_within (T : Txt K mg) : Cal P w K mg base 2 "is_within" (sp_is_within K) [] := by
  have C_is_integer := c_is_integer (P := P) (w := w) (base := base) T
  have sc := sc_is_within
  refine cal_of T.d_is_within sc (fun _ _ _ _ _ _ us hl => match us, hl with | [_, _, _], _ => rfl) (fun vs H Q E h => ?_) (fun f cdv A outer s H vs Q E hr h => ?_)
  · obtain ⟨x, lo, hi, rfl, _⟩ := h
    rfl
  · obtain ⟨x, lo, hi, rfl, h⟩ := h
    refine ⟨_, (pss_one (ps_ret (pe_and (pe_c C_is_integer hr (by omega) rfl (pa_cons (pv 0) pa_nil)) (pe_one (pe_chain op_le op_le (pv 1) (pv 0) (pv 2)))))), ?_⟩
    obtain ⟨ty, q⟩ := h
    refine ⟨_, rfl, x, rfl, ty, isInt x, rfl, ?_⟩
    cases x with
    | int n =>
      refine iteT ⟨_, rfl, _, rfl, lo, n, rfl, rfl, decide (lo ≤ n), rfl, ?_⟩
      by_cases c : lo ≤ n
      · rw [if_pos (decide_eq_true c)]
        refine ⟨_, rfl, n, hi, rfl, rfl, ?_⟩
        have e : within (.int n) lo hi = decide (n ≤ hi) := by
          show (decide (lo ≤ n) && decide (n ≤ hi)) = _
          rw [decide_eq_true c, Bool.true_and]
        rw [e] at q
        exact q
      · rw [if_neg (by rw [decide_eq_false c]; exact Bool.false_ne_true)]
        have e : within (.int n) lo hi = false := by
          show (decide (lo ≤ n) && decide (n ≤ hi)) = _
          rw [decide_eq_false c, Bool.false_and]
        rw [e] at q
        exact q
    | _ => exact iteF q
end
end K21
namespace K21
open PySem L2 Nm
open C8 (Cal Mak pe_c pe_mk pe_gc)
open RZ (ItzT pi_zipA)
section
variable {P : Program} {w : World} {K : PySem.W.Frag} {mg : Str → Option Value} {base : Heap}
def sp_is_side (K : PySem.W.Frag) : Sp := fun vs H Q _ => ∃ (x : V), vs = [x] ∧ TyI K H x ∧ Q (.bl (within x 0 1)) H
theorem c_is_side (T : Txt K mg) : Cal P w K mg base 3 "is_side" (sp_is_side K) [] := by
  have C_is_within := c_is_within (P := P) (w := w) (base := base) T
  have sc := sc_is_side
  refine cal_of T.d_is_side sc (fun _ _ _ _ _ _ us hl => match us, hl with | [_], _ => rfl) (fun vs H Q E h => ?_) (fun f cdv A outer s H vs Q E hr h => ?_)
  · obtain ⟨x, rfl, _⟩ := h
    rfl
  · obtain ⟨x, rfl, h⟩ := h
    refine ⟨_, (pss_one (ps_ret (pe_c C_is_within hr (by omega) rfl (pa_cons (pv 0) (pa_cons pe_int (pa_cons pe_int pa_nil)))))), ?_⟩
    obtain ⟨ty, q⟩ := h
    exact ⟨_, rfl, x, 0, 1, rfl, ty, q⟩
end
end K21
namespace K21
open PySem L2 Nm
open C8 (Cal Mak pe_c pe_mk pe_gc)
open RZ (ItzT pi_zipA)
section
variable {P : Program} {w : World} {K : PySem.W.Frag} {mg : Str → Option Value} {base : Heap}
def sp_is_lettered (K : PySem.W.Frag) : Sp := fun vs H Q _ => ∃ (z : Str) (most : Int), vs = [.str z, .int most] ∧ z.length ≤ 1000 ∧ ∀ H', Same H H' → Q (.bl (letB z most)) H'
theorem c_is_lettered (T : Txt K mg) : Cal P w K mg base 1 "is_lettered" (sp_is_lettered K) [] := by
  have sc := sc_is_lettered
  refine cal_of T.d_is_lettered sc (fun _ _ _ _ _ _ us hl => match us, hl with | [_, _], _ => rfl) (fun vs H Q E h => ?_) (fun f cdv A outer s H vs Q E hr h => ?_)
  · obtain ⟨z, most, rfl, _⟩ := h
    rfl
  · obtain ⟨z, most, rfl, h⟩ := h
    refine ⟨_, (pss_cons (ps_if (PW.pt (pw_or (pt_not (pt_val (pe_callB call_isi rfl T.m_isinstance (by decide +kernel) (pa_cons (pv 0) (pa_cons (pe_bltn (v := .ty "str") (u := .type "str") rfl T.m_str (by decide +kernel) rfl) pa_nil))))) (pw_or1 (pt_not (pt_chain op_le op_le pe_int (pe_callB call_len_str rfl T.m_len (by decide +kernel) (pa_cons (pv 0) pa_nil)) (pv 1)))))) (pss_one (ps_ret pe_bl)) pss_nil)
  (pss_one (ps_ret (pe_callB (cr_all rfl) rfl T.m_all (by decide +kernel) (pa_cons (pe_lc (own := [("sign", 2)]) (g := gName 2) rfl sc.nd (pi_str (pv 0)) (blkOk_by (own := [("sign", 2)]) (N := ["thing", "most", "sign"]) (sc := defScope s_is_lettered) (by decide +kernel)) (fun _ _ _ _ _ => (pg_name (i := 2) sc.nd rfl (Or.inl rfl))) (fun _ _ _ _ _ => pts_nil) (fun _ _ _ _ _ => (pe_chain op_le_str op_le_str pe_str (pv 2) pe_str))) pa_nil))))), ?_⟩
    obtain ⟨hz, q⟩ := h
    obtain ⟨t, h1, h2⟩ := tyc_str (K := K) (H := H) z
    have fit : z.length ≤ sizeLine := Nat.le_trans hz (by decide)
    refine ⟨_, rfl, _, _, t, _, true, rfl, .ty _, h1, h2, true, rfl, ?_⟩
    refine iteF ?_
    refine ⟨_, rfl, z, rfl, fit, 1, (z.length : Int), rfl, rfl, decide (1 ≤ (z.length : Int)), rfl, ?_⟩
    by_cases c1 : 1 ≤ (z.length : Int)
    · rw [if_pos (decide_eq_true c1)]
      refine ⟨_, rfl, (z.length : Int), most, rfl, rfl, decide ((z.length : Int) ≤ most), rfl, ?_⟩
      by_cases c2 : (z.length : Int) ≤ most
      · rw [decide_eq_true c2]
        refine iteF ?_
        refine ⟨_, rfl, z, rfl, fun D hD => ?_⟩
        refine lc_it walk_str (fun i H1 => H1 D = some (.lst ((z.cps.toList.take i).map fun c => V.bl (decide (97 ≤ c) && decide (c ≤ 122)))) ∧ Same H H1) ⟨upd_same, same_new hD⟩ (fun _ _ _ _ => trivial) ?_ ?_
        · rintro i x H0 H1 hi ⟨hl, g⟩ ⟨rfl, c, hc, rfl⟩
          refine ⟨rfl, ?_⟩
          have hc' : z.cps.toList[i]? = some c := by rw [Array.getElem?_toList]; exact hc
          have tk : (z.cps.toList.take (i + 1)).map (fun c => V.bl (decide (97 ≤ c) && decide (c ≤ 122))) = (z.cps.toList.take i).map (fun c => V.bl (decide (97 ≤ c) && decide (c ≤ 122))) ++ [V.bl (decide (97 ≤ c) && decide (c ≤ 122))] := by
            rw [List.take_add_one, hc', List.map_append]
            rfl
          have small : ((z.cps.toList.take i).map fun c => V.bl (decide (97 ≤ c) && decide (c ≤ 122))).length < sizeLine := by
            rw [List.length_map, List.length_take]
            have a : z.cps.toList.length = z.length := by rw [Array.length_toList]; rfl
            have b : (1000 : Nat) < sizeLine := by decide
            omega
          have fin : ∀ v : Bool, v = (decide (97 ≤ c) && decide (c ≤ 122)) → ∃ acc, H1 D = some (.lst acc) ∧ acc.length < sizeLine ∧
              (upd H1 D (.lst (acc ++ [V.bl v])) D = some (.lst ((z.cps.toList.take (i + 1)).map fun c => V.bl (decide (97 ≤ c) && decide (c ≤ 122)))) ∧ Same H (upd H1 D (.lst (acc ++ [V.bl v])))) := fun v e => by
            refine ⟨_, hl, small, ?_, same_mut g hD⟩
            rw [upd_same, tk, e]
          refine ⟨_, rfl, _, _, rfl, rfl, !decide (([c] : List Nat) < [97]), rfl, ?_⟩
          rw [sign_lt]
          by_cases d : 97 ≤ c
          · rw [if_pos (by rw [decide_eq_false (by omega)]; rfl)]
            refine ⟨_, _, rfl, rfl, ?_⟩
            refine fin (!decide (([122] : List Nat) < [c])) ?_
            rw [sign_lt, decide_eq_true d, Bool.true_and]
            by_cases d2 : c ≤ 122
            · rw [decide_eq_true d2, decide_eq_false (by omega)]
              rfl
            · rw [decide_eq_false d2, decide_eq_true (by omega)]
              rfl
          · rw [if_neg (by rw [decide_eq_true (by omega)]; exact Bool.false_ne_true)]
            refine fin false ?_
            rw [decide_eq_false d]
            rfl
        · rintro H1 ⟨hl, g⟩
          have hn : z.cps.toList.take z.cps.size = z.cps.toList := List.take_of_length_le (by rw [Array.length_toList]; exact Nat.le_refl _)
          rw [hn] at hl
          refine ⟨D, z.cps.toList.map (fun c => decide (97 ≤ c) && decide (c ≤ 122)), rfl, SqL.of (by rw [hl, List.map_map]; rfl), ?_⟩
          have e : letB z most = ((z.cps.toList.map (fun c => decide (97 ≤ c) && decide (c ≤ 122))).all id) := by
            unfold letB
            rw [decide_eq_true c1, decide_eq_true c2, List.all_map]
            rfl
          have q' := q H1 g
          rw [e] at q'
          exact q'
      · rw [decide_eq_false c2]
        refine iteT ?_
        have e : letB z most = false := by unfold letB; rw [decide_eq_false c2, Bool.and_false, Bool.false_and]
        have q' := q H (Same.refl H)
        rw [e] at q'
        exact q'
    · rw [if_neg (by rw [decide_eq_false c1]; exact Bool.false_ne_true)]
      refine ⟨false, rfl, iteT ?_⟩
      have e : letB z most = false := by unfold letB; rw [decide_eq_false c1, Bool.false_and, Bool.false_and]
      have q' := q H (Same.refl H)
      rw [e] at q'
      exact q'
end
end K21
namespace K21
open PySem L2 Nm
open C8 (Cal Mak pe_c pe_mk pe_gc)
open RZ (ItzT pi_zipA)
section
variable {P : Program} {w : World} {K : PySem.W.Frag} {mg : Str → Option Value} {base : Heap}
def sp_is_name (K : PySem.W.Frag) : Sp := fun vs H Q _ => ∃ (z : Str), vs = [.str z] ∧ z.length ≤ 1000 ∧ ∀ H', Same H H' → Q (.bl (letB z 8)) H'
theorem c_is_name (T : Txt K mg) : Cal P w K mg base 2 "is_name" (sp_is_name K) [] := by
  have C_is_lettered := c_is_lettered (P := P) (w := w) (base := base) T
  have sc := sc_is_name
  refine cal_of T.d_is_name sc (fun _ _ _ _ _ _ us hl => match us, hl with | [_], _ => rfl) (fun vs H Q E h => ?_) (fun f cdv A outer s H vs Q E hr h => ?_)
  · obtain ⟨z, rfl, _⟩ := h
    rfl
  · obtain ⟨z, rfl, h⟩ := h
    refine ⟨_, (pss_one (ps_ret (pe_c C_is_lettered hr (by omega) rfl (pa_cons (pv 0) (pa_cons pe_int pa_nil))))), ?_⟩
    exact ⟨_, rfl, z, 8, rfl, h.1, h.2⟩
end
end K21
namespace K21
open PySem L2 Nm
open C8 (Cal Mak pe_c pe_mk pe_gc)
open RZ (ItzT pi_zipA)
section
variable {P : Program} {w : World} {K : PySem.W.Frag} {mg : Str → Option Value} {base : Heap}
def sp_is_word (K : PySem.W.Frag) : Sp := fun vs H Q _ => ∃ (z : Str), vs = [.str z] ∧ z.length ≤ 1000 ∧ ∀ H', Same H H' → Q (.bl (letB z 20)) H'
theorem c_is_word (T : Txt K mg) : Cal P w K mg base 2 "is_word" (sp_is_word K) [] := by
  have C_is_lettered := c_is_lettered (P := P) (w := w) (base := base) T
  have sc := sc_is_word
  refine cal_of T.d_is_word sc (fun _ _ _ _ _ _ us hl => match us, hl with | [_], _ => rfl) (fun vs H Q E h => ?_) (fun f cdv A outer s H vs Q E hr h => ?_)
  · obtain ⟨z, rfl, _⟩ := h
    rfl
  · obtain ⟨z, rfl, h⟩ := h
    refine ⟨_, (pss_one (ps_ret (pe_c C_is_lettered hr (by omega) rfl (pa_cons (pv 0) (pa_cons pe_int pa_nil))))), ?_⟩
    exact ⟨_, rfl, z, 20, rfl, h.1, h.2⟩
end
end K21
namespace K21
open PySem L2 Nm
open C8 (Cal Mak pe_c pe_mk pe_gc)
open RZ (ItzT pi_zipA)
section
variable {P : Program} {w : World} {K : PySem.W.Frag} {mg : Str → Option Value} {base : Heap}
def sp_is_words (K : PySem.W.Frag) : Sp := fun vs H Q _ => ∃ (a : Addr) (zs : List Str) (most : Int), vs = [.ref a, .int most] ∧ H a = some (.tup (zs.map V.str)) ∧ zs.length ≤ 1000 ∧ (∀ z ∈ zs, z.length ≤ 1000) ∧ ∀ H', Same H H' → Q (.bl (rowB zs most)) H'
theorem c_is_words (T : Txt K mg) : Cal P w K mg base 3 "is_words" (sp_is_words K) [] := by
  have C_is_word := c_is_word (P := P) (w := w) (base := base) T
  have sc := sc_is_words
  refine cal_of T.d_is_words sc (fun _ _ _ _ _ _ us hl => match us, hl with | [_, _], _ => rfl) (fun vs H Q E h => ?_) (fun f cdv A outer s H vs Q E hr h => ?_)
  · obtain ⟨a, zs, most, rfl, _⟩ := h
    rfl
  · obtain ⟨a, zs, most, rfl, h⟩ := h
    refine ⟨_, (pss_one (ps_ret (pe_and (pe_callB call_isi rfl T.m_isinstance (by decide +kernel) (pa_cons (pv 0) (pa_cons (pe_bltn (v := .ty "tuple") (u := .type "tuple") rfl T.m_tuple (by decide +kernel) rfl) pa_nil))) (pe_and (pe_cmpR op_le (pe_callB call_len_seq rfl T.m_len (by decide +kernel) (pa_cons (pv 0) pa_nil)) (pv 1) (nomark _)) (pe_one (pe_callB (cr_all rfl) rfl T.m_all (by decide +kernel) (pa_cons (pe_lc (own := [("word", 2)]) (g := gName 2) rfl sc.nd (pi_tup (pv 0)) (blkOk_by (own := [("word", 2)]) (N := ["thing", "most", "word"]) (sc := defScope s_is_words) (by decide +kernel)) (fun _ _ _ _ _ => (pg_name (i := 2) sc.nd rfl (Or.inl rfl))) (fun _ _ _ _ _ => pts_nil) (fun _ _ _ _ _ => (pe_c C_is_word hr (by omega) rfl (pa_cons (pv 2) pa_nil)))) pa_nil))))))), ?_⟩
    obtain ⟨ha, hl, hz, q⟩ := h
    obtain ⟨t, h1, h2⟩ := tyc_tup (K := K) ha
    refine ⟨_, rfl, _, _, t, _, true, rfl, .ty _, h1, h2, true, rfl, ?_⟩
    refine iteT ⟨_, rfl, a, _, rfl, .inr (SqT.of ha), _, rfl, _, _, rfl, rfl, decide (((zs.map V.str).length : Int) ≤ most), rfl, ?_⟩
    rw [List.length_map]
    by_cases c : (zs.length : Int) ≤ most
    · rw [decide_eq_true c]
      refine iteT ⟨_, rfl, a, rfl, ⟨_, SqT.of ha⟩, fun D hD => ?_⟩
      refine lc_tup (K := K) (a := a) (xs := zs.map V.str) (fun i H1 => H1 D = some (.lst ((zs.take i).map fun z => V.bl (letB z 20))) ∧ Same H H1) ⟨upd_same, same_new hD⟩ (fun i H1 _ p => SqT.of (p.2 _ _ ha)) ?_ ?_
      · rintro i x H1 hx ⟨hl1, g⟩
        obtain ⟨z, hz1, rfl⟩ : ∃ z, zs[i]? = some z ∧ x = V.str z := by
          rw [List.getElem?_map] at hx
          cases e : zs[i]? with
          | none =>
            rw [e] at hx
            cases hx
          | some z =>
            rw [e] at hx
            exact ⟨z, rfl, (Option.some.inj hx).symm⟩
        refine ⟨rfl, ?_⟩
        refine ⟨_, rfl, z, rfl, hz z (List.mem_of_getElem? hz1), fun H2 g2 => ?_⟩
        refine ⟨_, g2 _ _ hl1, ?_, ?_, ?_⟩
        · rw [List.length_map, List.length_take]
          have b : (1000 : Nat) < sizeLine := by decide
          omega
        · rw [upd_same, take_one hz1, List.map_append]
          rfl
        · exact same_mut (g.trans g2) hD
      · rintro H1 ⟨hl1, g⟩
        rw [List.length_map, List.take_length] at hl1
        refine ⟨D, zs.map (fun z => letB z 20), rfl, SqL.of (by rw [hl1, List.map_map]; rfl), ?_⟩
        have e : rowB zs most = (zs.map (fun z => letB z 20)).all id := by
          unfold rowB
          rw [decide_eq_true c, Bool.true_and, List.all_map]
          rfl
        have q' := q H1 g
        rw [e] at q'
        exact q'
    · rw [decide_eq_false c]
      refine iteF ?_
      have e : rowB zs most = false := by unfold rowB; rw [decide_eq_false c, Bool.false_and]
      have q' := q H (Same.refl H)
      rw [e] at q'
      exact q'
end
end K21
namespace K21
open PySem L2 Nm
open C8 (Cal Mak pe_c pe_mk pe_gc)
open RZ (ItzT pi_zipA)
section
variable {P : Program} {w : World} {K : PySem.W.Frag} {mg : Str → Option Value} {base : Heap}
def sp_is_board (K : PySem.W.Frag) : Sp := fun vs H Q _ => ∃ (v : V) (b : Bd), vs = [v] ∧ BoardAt H v b ∧ smallBd b ∧ ∀ H', Same H H' → Q (.bl (boardB b)) H'
theorem c_is_board (T : Txt K mg) : Cal P w K mg base 4 "is_board" (sp_is_board K) [] := by
  have C_is_name := c_is_name (P := P) (w := w) (base := base) T
  have C_is_side := c_is_side (P := P) (w := w) (base := base) T
  have C_is_words := c_is_words (P := P) (w := w) (base := base) T
  have sc := sc_is_board
  refine cal_of T.d_is_board sc (fun _ _ _ _ _ _ us hl => match us, hl with | [_], _ => rfl) (fun vs H Q E h => ?_) (fun f cdv A outer s H vs Q E hr h => ?_)
  · obtain ⟨v, b, rfl, _⟩ := h
    rfl
  · obtain ⟨v, b, rfl, h⟩ := h
    refine ⟨_, (pss_cons (ps_if (PW.pt (pw_or (pt_not (pt_val (pe_callB call_isi rfl T.m_isinstance (by decide +kernel) (pa_cons (pv 0) (pa_cons (pe_bltn (v := .ty "tuple") (u := .type "tuple") rfl T.m_tuple (by decide +kernel) rfl) pa_nil))))) (pw_or1 (pt_cmpR op_ne (pe_callB call_len_seq rfl T.m_len (by decide +kernel) (pa_cons (pv 0) pa_nil)) pe_int (nomark _))))) (pss_one (ps_ret pe_bl)) pss_nil)
  (pss_cons (ps_asg (pv 0) (pg_tup rfl (pgs_cons (pg_name (i := 1) sc.nd rfl (Or.inl rfl)) (pgs_cons (pg_name (i := 2) sc.nd rfl (Or.inl rfl)) (pgs_cons (pg_name (i := 3) sc.nd rfl (Or.inl rfl)) pgs_nil)))))
  (pss_one (ps_ret (pe_and (pe_c C_is_name hr (by omega) rfl (pa_cons (pv 1) pa_nil)) (pe_and (pe_c C_is_side hr (by omega) rfl (pa_cons (pv 2) pa_nil)) (pe_one (pe_c C_is_words hr (by omega) rfl (pa_cons (pv 3) (pa_cons (pe_gc rfl T.g_MOST_BEGUN) pa_nil)))))))))), ?_⟩
    obtain ⟨⟨a, r, rfl, h1, h2⟩, ⟨z1, z2, z3⟩, q⟩ := h
    obtain ⟨t, t1, t2⟩ := tyc_tup (K := K) h1
    refine ⟨_, rfl, _, _, t, _, true, rfl, .ty _, t1, t2, true, rfl, ?_⟩
    refine iteF ⟨_, rfl, a, _, rfl, .inr (SqT.of h1), rfl, _, rfl, ?_⟩
    refine iteF ⟨_, rfl, a, _, rfl, SqT.of h1, rfl, _, _, rfl, _, _, rfl, _, _, rfl, rfl, ?_⟩
    refine ⟨_, rfl, b.1, rfl, z1, fun H1 g1 => ⟨letB b.1 8, rfl, ?_⟩⟩
    have e : boardB b = (letB b.1 8 && (within (.int b.2.1) 0 1 && rowB b.2.2 20)) := rfl
    cases e1 : letB b.1 8 with
    | false =>
      refine iteF ?_
      rw [e1, Bool.false_and] at e
      have q' := q H1 g1
      rw [e] at q'
      exact q'
    | true =>
      rw [e1, Bool.true_and] at e
      refine iteT ⟨_, rfl, _, rfl, tyi_int _, within (.int b.2.1) 0 1, rfl, ?_⟩
      cases e2 : within (.int b.2.1) 0 1 with
      | false =>
        refine iteF ?_
        rw [e2, Bool.false_and] at e
        have q' := q H1 g1
        rw [e] at q'
        exact q'
      | true =>
        rw [e2, Bool.true_and] at e
        refine iteT ⟨_, rfl, r, b.2.2, 20, rfl, g1 _ _ h2, z2, z3, fun H2 g2 => ?_⟩
        have q' := q H2 (g1.trans g2)
        rw [e] at q'
        exact q'
end
end K21
namespace K21
open PySem L2 Nm
open C8 (Cal Mak pe_c pe_mk pe_gc)
open RZ (ItzT pi_zipA)
section
variable {P : Program} {w : World} {K : PySem.W.Frag} {mg : Str → Option Value} {base : Heap}
def sp_names_of (K : PySem.W.Frag) : Sp := fun vs H Q _ => ∃ (a : Addr) (bs : List Bd), vs = [.ref a] ∧ BoardsAt H a bs ∧ bs.length < 64 ∧ ∀ H' p ys, Same H H' → H p = none → H' p = some (.tup (ys.map V.str)) → Names (bs.map (·.1)) ys → Q (.ref p) H'
theorem c_names_of (T : Txt K mg) : Cal P w K mg base 1 "names_of" (sp_names_of K) [] := by
  have sc := sc_names_of
  refine cal_of T.d_names_of sc (fun _ _ _ _ _ _ us hl => match us, hl with | [_], _ => rfl) (fun vs H Q E h => ?_) (fun f cdv A outer s H vs Q E hr h => ?_)
  · obtain ⟨a, bs, rfl, _⟩ := h
    rfl
  · obtain ⟨a, bs, rfl, h⟩ := h
    refine ⟨_, (pss_one (ps_ret (pe_callTy call_tuple_of rfl T.m_tuple (by decide +kernel) (pa_cons (pe_callB (Nm.cr_sortTx rfl) rfl T.m_sorted (by decide +kernel) (pa_cons (Nm.pe_nm (own := [("board", 1)]) (g := gName 1) rfl sc.nd (pi_tup (pv 0)) (blkOk_by (own := [("board", 1)]) (N := ["boards", "board"]) (sc := defScope s_names_of) (by decide +kernel)) (fun _ _ _ _ _ => (pg_name (i := 1) sc.nd rfl (Or.inl rfl))) (fun _ _ _ _ _ => (pe_ix (r := rIxT K) ix_tup (pv 1) pe_int (fun _ _ => rfl)))) pa_nil)) pa_nil)))), ?_⟩
    obtain ⟨⟨xs, ha, pr⟩, hl, q⟩ := h
    refine ⟨_, rfl, a, rfl, ⟨_, SqT.of ha⟩, fun D hD => ?_⟩
    refine nm_tup (K := K) (a := a) (xs := xs) (fun i H1 => H1 D = some (TxO w D (gathered ((bs.take i).map (·.1)))) ∧ Same H H1) ⟨upd_same, same_new hD⟩ (fun i H1 _ p => SqT.of (p.2 _ _ ha)) ?_ ?_
    · rintro i x H1 hx ⟨hl1, g⟩
      obtain ⟨b, hb, c, r, rfl, h1, h2⟩ := paired_at pr i x hx
      refine ⟨rfl, ?_⟩
      refine ⟨_, rfl, c, _, 0, .str b.1, rfl, rfl, SqT.of (g _ _ h1), rfl, b.1, _, rfl, hl1, ?_, ?_, ?_⟩
      · have z := (gathered_facts ((bs.take i).map (·.1))).2.2
        rw [List.length_map, List.length_take] at z
        have : (64 : Nat) + 1 < scanBound := by decide
        omega
      · rw [upd_same, take_one hb, List.map_append]
        show some (TxO w D (plus (gathered ((bs.take i).map (·.1))) b.1)) = some (TxO w D (gathered ((bs.take i).map (·.1) ++ [b.1])))
        rw [gathered_snoc]
      · exact same_mut g hD
    · rintro H1 ⟨hl1, g⟩
      have el : xs.length = bs.length := paired_len pr
      rw [el, List.take_length] at hl1
      obtain ⟨f1, f2, f3⟩ := gathered_facts (bs.map (·.1))
      rw [List.length_map] at f3
      refine ⟨D, _, rfl, hl1, by omega, fun ys p pm up hp => ?_⟩
      have g2 : Same H (upd H1 p (.lst (ys.map V.str))) := g.trans (same_new hp)
      refine ⟨p, _, rfl, .inl ⟨SqL.of upd_same, fun l hl => ?_⟩⟩
      refine q _ l ys (g2.trans (same_new hl)) (g2.free hl) upd_same ⟨up, pm.nodup_iff.mpr f1, fun x => ?_⟩
      rw [pm.mem_iff]
      exact f2 x
end
end K21
namespace K21
open PySem L2 Nm
open C8 (Cal Mak pe_c pe_mk pe_gc)
open RZ (ItzT pi_zipA)
section
variable {P : Program} {w : World} {K : PySem.W.Frag} {mg : Str → Option Value} {base : Heap}
def sp_Hall (K : PySem.W.Frag) (C : Addr) : Sp := fun vs H Q _ => ∃ (p dx a : Addr) (bs : List Bd), vs = [.ref p, .ref a] ∧ H p = some (.ins C dx []) ∧ BoardsAt H a bs ∧ (∀ b ∈ bs, boardB b = true ∧ smallBd b) ∧ 1 ≤ bs.length ∧ bs.length ≤ 12 ∧
  ∀ H' fs, H' p = some (.ins C dx fs) → fs.length ≤ 2 → HallAt K H' p bs → (∀ b o, H b = some o → b ≠ p → H' b = some o) → Q .non H'
theorem c_Hall (T : Txt K mg) : ∃ C, Mak P w K mg base 5 "Hall" C (sp_Hall K C) [] := by
  obtain ⟨C, fi, fd, cl, mk, hm, F, nB, nN⟩ := T.cls_Hall
  have C_is_board := c_is_board (P := P) (w := w) (base := base) T
  have C_names_of := c_names_of (P := P) (w := w) (base := base) T
  have sc := sc_Hall___init__
  refine ⟨C, ⟨fi, fd, ["self", "boards"], [], mk, F.ok (k := 4) sc (fun vs H Q E h => ?_) (fun cdv A outer s H vs Q E hr h => ?_), hm, F.binds fun _ _ _ _ _ _ us hl => match us, hl with | [_, _], _ => rfl, .nil⟩⟩
  · obtain ⟨p, dx, a, bs, rfl, _⟩ := h
    rfl
  · obtain ⟨p, dx, a, bs, rfl, hp, hb, ok, l1, l12, q⟩ := h
    obtain ⟨xs, ha, pr⟩ := id hb
    have el : xs.length = bs.length := paired_len pr
    obtain ⟨t, t1, t2⟩ := tyc_tup (K := K) ha
    refine ⟨_, (pss_cons (ps_if (PW.pt (pw_or (pt_not (pt_val (pe_callB call_isi rfl T.m_isinstance (by decide +kernel) (pa_cons (pv 1) (pa_cons (pe_bltn (v := .ty "tuple") (u := .type "tuple") rfl T.m_tuple (by decide +kernel) rfl) pa_nil))))) (pw_or1 (pt_not (pt_chain op_le op_le pe_int (pe_callB call_len_seq rfl T.m_len (by decide +kernel) (pa_cons (pv 1) pa_nil)) (pe_gc rfl T.g_MOST_BOARDS)))))) (pss_one ps_never) pss_nil)
  (pss_cons (ps_for PassesOwn.never rfl (Nm.pi_enuT rfl T.m_enumerate (pa_cons (pv 1) pa_nil)) (pg_tup rfl (pgs_cons (pg_name (i := 2) sc.nd rfl (Or.inl rfl)) (pgs_cons (pg_name (i := 3) sc.nd rfl (Or.inl rfl)) pgs_nil))) (pss_one (ps_if (pt_not (pt_val (pe_c C_is_board hr (by omega) rfl (pa_cons (pv 3) pa_nil)))) (pss_one ps_never) pss_nil)))
  (pss_cons (ps_fld (pv 0) (pv 1) rfl)
  (pss_one (ps_fld (pv 0) (pe_c C_names_of hr (by omega) rfl (pa_cons (pv 1) pa_nil)) rfl))))), ?_⟩
    refine ⟨_, rfl, _, _, t, _, true, rfl, .ty _, t1, t2, true, rfl, ?_⟩
    refine iteF ⟨_, rfl, a, _, rfl, .inr (SqT.of ha), _, _, rfl, rfl, decide (1 ≤ (xs.length : Int)), rfl, ?_⟩
    rw [decide_eq_true (show 1 ≤ (xs.length : Int) by omega)]
    refine iteT ⟨_, _, rfl, rfl, decide ((xs.length : Int) ≤ 12), rfl, ?_⟩
    rw [decide_eq_true (show (xs.length : Int) ≤ 12 by omega)]
    refine iteF ?_
    refine ⟨_, rfl, a, xs, rfl, SqT.of ha, ?_⟩
    refine for_it walk_itu (fun i σ H1 => ∃ v2 v3, σ = [some (.ref p), some (.ref a), v2, v3] ∧ Same H H1) ⟨none, none, rfl, Same.refl H⟩ (fun i σ H1 _ ⟨_, _, _, g⟩ => SqT.of (g _ _ ha)) ?_ ?_
    · rintro i x σ H1 H2 hi ⟨v2, v3, rfl, g⟩ ⟨tp, x1, y, rfl, hn, rfl, e1, e2⟩
      obtain ⟨b, hb1, hb2⟩ := paired_at pr i y e2
      have g1 : Same H (upd H1 tp (.tup [x1, y])) := g.trans (same_new hn)
      refine ⟨tp, [x1, y], rfl, SqT.of upd_same, rfl, _, _, rfl, _, _, rfl, rfl, ?_⟩
      obtain ⟨o1, o2⟩ := ok b (List.mem_of_getElem? hb1)
      refine ⟨_, rfl, y, b, rfl, hb2.mono (same_tups g1), o2, fun H3 g3 => ⟨boardB b, rfl, ?_⟩⟩
      rw [o1]
      exact iteF ⟨_, _, rfl, g1.trans g3⟩
    · rintro σ H1 ⟨v2, v3, rfl, g⟩
      refine ⟨_, rfl, _, rfl, p, C, dx, [], rfl, g _ _ hp, cl, nB, (by show 0 < 1000; decide), ?_⟩
      have pa : a ≠ p := fun e => by
        rw [e, hp] at ha
        cases ha
      have other : ∀ {H5 : Hp} {o : HO}, Same H H5 → ∀ b u, H b = some u → b ≠ p → upd H5 p o b = some u := fun g5 b u hu hne => by
        rw [upd_ne hne]
        exact g5 b u hu
      have tups : ∀ b ys, H b = some (.tup ys) → b ≠ p := fun b ys hy e => by
        rw [e, hp] at hy
        cases hy
      refine ⟨_, rfl, a, bs, rfl, hb.mono (fun b ys hy => other g b _ hy (tups b ys hy)), by omega, fun H2 n ys g2 hn h2 nm => ?_⟩
      have hp2 : H2 p = some (.ins C dx (putF "boards" (.ref a) [])) := g2 _ _ upd_same
      refine ⟨_, rfl, p, C, dx, _, rfl, hp2, cl, nN, (by show 1 < 1000; decide), ?_⟩
      have pn : n ≠ p := fun e => by
        rw [e, hp2] at h2
        cases h2
      refine q _ _ upd_same (Nat.le_trans (putF_len _ _ _) (Nat.succ_le_succ (putF_len _ _ _))) ⟨C, dx, _, a, n, ys, cl, nB, nN, upd_same, ?_, ?_, ?_, ?_, nm⟩ ?_
      · rw [lookup_putF, if_neg nb_ne, lookup_putF, if_pos rfl]
      · rw [lookup_putF, if_pos rfl]
      · refine hb.mono fun b zs hz => ?_
        rw [upd_ne (tups b zs hz)]
        exact g2 _ _ (other g b _ hz (tups b zs hz))
      · rw [upd_ne pn]
        exact h2
      · intro b o ho hne
        rw [upd_ne hne]
        exact g2 _ _ (other g b o ho hne)
end
end K21
namespace K21
open PySem L2 Nm
open C8 (Cal Mak pe_c pe_mk pe_gc)
open RZ (ItzT pi_zipA)
section
variable {P : Program} {w : World} {K : PySem.W.Frag} {mg : Str → Option Value} {base : Heap}
def sp__law_tape (K : PySem.W.Frag) : Sp := fun vs H Q _ => ∃ (a : Addr), vs = [.ref a] ∧ ∃ ns : List Int, SqL K H a (ns.map V.int) ∧ ∀ tp l H', Same H H' → H tp = none → TapeAt H' tp l → Q (.ref tp) H'
theorem c__law_tape (T : Txt K mg) : Cal P w K mg base 1 "_law_tape" (sp__law_tape K) [] := by
  have sc := sc__law_tape
  refine cal_of T.d__law_tape sc (fun _ _ _ _ _ _ us hl => match us, hl with | [_], _ => rfl) (fun vs H Q E h => ?_) (fun f cdv A outer s H vs Q E hr h => ?_)
  · obtain ⟨a, rfl, _⟩ := h
    rfl
  · obtain ⟨a, rfl, h⟩ := h
    refine ⟨_, (pss_one (ps_ret (pe_lst (pa_cons (pe_callTy call_list_of rfl T.m_list (by decide +kernel) (pa_cons (pv 0) pa_nil)) (pa_cons pe_int (pa_cons pe_int (pa_cons pe_int (pa_cons pe_int pa_nil)))))))), ?_⟩
    obtain ⟨ns, hs, q⟩ := h
    refine ⟨_, rfl, a, _, rfl, .inl hs, fun l hl => ⟨(by show 5 ≤ PySem.sizeLine; decide), fun tp ht => ?_⟩⟩
    have g1 : Same H (upd H l (.lst (ns.map V.int))) := same_new hl
    exact q tp l _ (g1.trans (same_new ht)) (g1.free ht) ⟨ns, 0, 0, 1, 0, upd_same, same_new ht _ _ upd_same, Int.le_refl 0⟩
end
end K21
namespace K21
open PySem L2 Nm
open C8 (Cal Mak pe_c pe_mk pe_gc)
open RZ (ItzT pi_zipA)
section
variable {P : Program} {w : World} {K : PySem.W.Frag} {mg : Str → Option Value} {base : Heap}
def sp__law_pick (K : PySem.W.Frag) : Sp := fun vs H Q _ => ∃ (tp : Addr) (size : Int), vs = [.ref tp, .int size] ∧ ∃ l, TapeAt H tp l ∧ 1 ≤ size ∧ size ≤ 1000 ∧ ∀ r H', 0 ≤ r → r < size → TapeAt H' tp l → Mov tp H H' → Q (.int r) H'
theorem c__law_pick (T : Txt K mg) : Cal P w K mg base 1 "_law_pick" (sp__law_pick K) [] := by
  have sc := sc__law_pick
  refine cal_of T.d__law_pick sc (fun _ _ _ _ _ _ us hl => match us, hl with | [_, _], _ => rfl) (fun vs H Q E h => ?_) (fun f cdv A outer s H vs Q E hr h => ?_)
  · obtain ⟨tp, size, rfl, _⟩ := h
    rfl
  · obtain ⟨tp, size, rfl, h⟩ := h
    refine ⟨_, (pss_cons (ps_if (pt_cmpR op_gt (pe_ix ix_list (pv 0) pe_int (fun _ _ => rfl)) pe_int (nomark _)) (pss_cons (ps_set (i := 2) sc.nd rfl (Or.inl rfl) (pe_op op_mod (pe_callTy call_int1 rfl T.m_int (by decide +kernel) (pa_cons (pe_ix ix_list (pv 0) pe_int (fun _ _ => rfl)) pa_nil)) (pv 1)))
  (pss_cons (ps_asg (pe_op op_fdiv (pe_ix ix_list (pv 0) pe_int (fun _ _ => rfl)) (pv 1)) (pg_sub (pv 0) pe_int set_list))
  (pss_one (ps_ret (pv 2))))) pss_nil)
  (pss_cons (ps_asg (pe_op op_add (pe_ix ix_list (pv 0) pe_int (fun _ _ => rfl)) pe_int) (pg_sub (pv 0) pe_int set_list))
  (pss_cons (ps_set (i := 3) sc.nd rfl (Or.inl rfl) pe_int)
  (C8.pss_cut (ps_if (pt_cmpR op_lt (pe_ix ix_list (pv 0) pe_int (fun _ _ => rfl)) (pe_callB call_len_seq rfl T.m_len (by decide +kernel) (pa_cons (pe_ix ix_list (pv 0) pe_int (fun _ _ => rfl)) pa_nil)) (nomark _)) (pss_cons (ps_set (i := 3) sc.nd rfl (Or.inl rfl) (pe_ix ix_list (pe_ix ix_list (pv 0) pe_int (fun _ _ => rfl)) (pe_ix ix_list (pv 0) pe_int (fun _ _ => rfl)) (fun _ _ => rfl)))
  (pss_one (ps_asg (pe_op op_add (pe_ix ix_list (pv 0) pe_int (fun _ _ => rfl)) pe_int) (pg_sub (pv 0) pe_int set_list)))) pss_nil)
  (pss_cons (ps_if (pt_cmpR op_ge (pv 3) (pe_op op_pow pe_int pe_int) (nomark _)) (pss_cons (ps_asg (pe_op op_fdiv (pv 3) (pv 1)) (pg_sub (pv 0) pe_int set_list))
  (pss_one (ps_ret (pe_op op_mod (pe_callTy call_int1 rfl T.m_int (by decide +kernel) (pa_cons (pv 3) pa_nil)) (pv 1))))) pss_nil)
  (pss_cons (ps_set (i := 4) sc.nd rfl (Or.inl rfl) (pe_op op_mod (pe_callTy call_int1 rfl T.m_int (by decide +kernel) (pa_cons (pe_op op_add (pe_op op_add (pe_op op_mul (pe_ix ix_list (pv 0) pe_int (fun _ _ => rfl)) pe_int) (pe_op op_mod (pe_callTy call_int1 rfl T.m_int (by decide +kernel) (pa_cons (pv 3) pa_nil)) pe_int)) (pe_op op_mul (pe_ix ix_list (pv 0) pe_int (fun _ _ => rfl)) pe_int)) pa_nil)) pe_int))
  (pss_cons (ps_set (i := 4) sc.nd rfl (Or.inl rfl) (pe_op op_mod (pe_callTy call_int1 rfl T.m_int (by decide +kernel) (pa_cons (pe_op op_mul (pv 4) (pe_op op_add (pe_op op_fdiv (pv 4) pe_int) pe_int)) pa_nil)) pe_int))
  (pss_cons (ps_asg (pv 4) (pg_sub (pv 0) pe_int set_list))
  (pss_one (ps_ret (pe_op op_mod (pe_callTy call_int1 rfl T.m_int (by decide +kernel) (pa_cons (pe_op op_fdiv (pv 4) pe_int) pa_nil)) (pv 1)))))))))))), ?_⟩
    obtain ⟨l, ⟨ns, i, c, m, n, ht, hl, h0⟩, s1, s2, q⟩ := h
    have nl : l ≠ tp := tape_ne ht hl
    have pos : (0 : Int) < size := by omega
    refine ⟨_, rfl, tp, _, 2, .int c, rfl, rfl, SqL.of ht, rfl, _, _, rfl, rfl, _, rfl, ?_⟩
    refine ite2 (fun _ => ?_) (fun _ => ?_)
    · refine ⟨_, rfl, tp, _, 2, .int c, rfl, rfl, SqL.of ht, rfl, .inl ⟨c, rfl, _, rfl, c, size, rfl, rfl, pos, ?_⟩⟩
      refine ⟨_, rfl, tp, _, 2, .int c, rfl, rfl, SqL.of ht, rfl, _, rfl, c, size, rfl, rfl, ⟨pos, by omega⟩, ?_⟩
      refine ⟨_, rfl, tp, _, 2, 2, rfl, rfl, ht, rfl, _, rfl, ?_⟩
      exact q _ _ (Int.emod_nonneg _ (by omega)) (Int.emod_lt_of_pos _ pos) ⟨ns, i, c / size, m, n, upd_same, by rw [upd_ne nl]; exact hl, h0⟩ mov_upd
    · refine ⟨_, rfl, tp, _, 4, .int n, rfl, rfl, SqL.of ht, rfl, n, 1, rfl, rfl, _, rfl, tp, _, 4, 4, rfl, rfl, ht, rfl, ?_⟩
      have ht1 : upd H tp (.lst [.ref l, .int i, .int c, .int m, .int (n + 1)]) tp = some (.lst [.ref l, .int i, .int c, .int m, .int (n + 1)]) := upd_same
      have hl1 : upd H tp (.lst [.ref l, .int i, .int c, .int m, .int (n + 1)]) l = some (.lst (ns.map V.int)) := by
        rw [upd_ne nl]
        exact hl
      refine ⟨fun σ H1 => ∃ cell j, σ = [some (.ref tp), some (.int size), none, some (.int cell), none] ∧ 0 ≤ j ∧ H1 tp = some (.lst [.ref l, .int j, .int c, .int m, .int (n + 1)]) ∧ H1 l = some (.lst (ns.map V.int)) ∧ Mov tp H H1, ?_, ?_⟩
      · refine ⟨_, rfl, tp, _, 1, .int i, rfl, rfl, SqL.of ht1, rfl, _, rfl, tp, _, 0, .ref l, rfl, rfl, SqL.of ht1, rfl, l, _, rfl, .inl (SqL.of hl1), _, _, rfl, rfl, _, rfl, ?_⟩
        rw [List.length_map]
        refine ite2 (fun z => ?_) (fun _ => ?_)
        · have z' : i < (ns.length : Int) := of_decide_eq_true z
          have at1 : atI (ns.map V.int) i = some (V.int (ns.getD i.toNat 0)) := by
            have e : i = ((i.toNat : Nat) : Int) := by omega
            rw [e, Int.toNat_natCast]
            exact at_getD (by omega)
          refine ⟨_, rfl, tp, _, 0, .ref l, rfl, rfl, SqL.of ht1, rfl, _, rfl, tp, _, 1, .int i, rfl, rfl, SqL.of ht1, rfl, l, _, i, _, rfl, rfl, SqL.of hl1, at1, ?_⟩
          refine ⟨_, rfl, tp, _, 1, .int i, rfl, rfl, SqL.of ht1, rfl, i, 1, rfl, rfl, _, rfl, tp, _, 1, 1, rfl, rfl, ht1, rfl, ?_⟩
          exact ⟨_, i + 1, rfl, by omega, upd_same, by rw [upd_ne nl]; exact hl1, mov_upd.trans mov_upd⟩
        · exact ⟨0, i, rfl, h0, ht1, hl1, mov_upd⟩
      · rintro σ H1 ⟨cell, j, rfl, j0, ht2, hl2, mv⟩
        refine ⟨_, rfl, _, _, rfl, rfl, ⟨by decide, by decide, by decide⟩, _, _, rfl, rfl, _, rfl, ?_⟩
        refine ite2 (fun _ => ?_) (fun _ => ?_)
        · refine ⟨_, rfl, _, rfl, cell, size, rfl, rfl, ⟨pos, by omega⟩, _, rfl, tp, _, 2, 2, rfl, rfl, ht2, rfl, ?_⟩
          refine ⟨_, rfl, .inl ⟨cell, rfl, _, rfl, cell, size, rfl, rfl, pos, ?_⟩⟩
          exact q _ _ (Int.emod_nonneg _ (by omega)) (Int.emod_lt_of_pos _ pos) ⟨ns, j, cell / size, m, n + 1, upd_same, by rw [upd_ne nl]; exact hl2, j0⟩ (mv.trans mov_upd)
        · refine ⟨_, rfl, tp, _, 3, .int m, rfl, rfl, SqL.of ht2, rfl, _, _, rfl, rfl, .inr ⟨by decide, by decide⟩, _, rfl, .inl ⟨cell, rfl, cell, _, rfl, rfl, (by show (0 : Int) < _; decide), ?_⟩⟩
          refine ⟨_, _, rfl, rfl, _, rfl, tp, _, 4, .int (n + 1), rfl, rfl, SqL.of ht2, rfl, _, _, rfl, rfl, .inr ⟨by decide, by decide⟩, ?_⟩
          refine ⟨_, _, rfl, rfl, .inl ⟨_, rfl, _, _, rfl, rfl, (by show (0 : Int) < _; decide), ?_⟩⟩
          have x0 : 0 ≤ (m * 48271 + cell % 2147483629 + (n + 1) * 69621) % 2147483647 := Int.emod_nonneg _ (by decide)
          have x1 : (m * 48271 + cell % 2147483629 + (n + 1) * 69621) % 2147483647 < 2147483647 := Int.emod_lt_of_pos _ (by decide)
          refine ⟨_, rfl, _, rfl, _, _, rfl, rfl, ⟨by decide, by decide⟩, _, _, rfl, rfl, _, _, rfl, rfl, .inl ⟨by omega, by omega⟩, .inl ⟨_, rfl, _, _, rfl, rfl, (by show (0 : Int) < _; decide), ?_⟩⟩
          refine ⟨_, rfl, _, rfl, tp, _, 3, 3, rfl, rfl, ht2, rfl, ?_⟩
          refine ⟨_, rfl, _, _, rfl, rfl, ⟨by decide, by decide⟩, .inl ⟨_, rfl, _, rfl, _, size, rfl, rfl, pos, ?_⟩⟩
          exact q _ _ (Int.emod_nonneg _ (by omega)) (Int.emod_lt_of_pos _ pos) ⟨ns, j, c, _, n + 1, upd_same, by rw [upd_ne nl]; exact hl2, j0⟩ (mv.trans mov_upd)
end
end K21
namespace K21
open PySem L2 Nm
open C8 (Cal Mak pe_c pe_mk pe_gc)
open RZ (ItzT pi_zipA)
section
variable {P : Program} {w : World} {K : PySem.W.Frag} {mg : Str → Option Value} {base : Heap}
def sp_are_pair (K : PySem.W.Frag) : Sp := fun vs H Q _ => ∃ (x y : V), vs = [x, y] ∧ ∃ b c, BoardAt H x b ∧ BoardAt H y c ∧ okB b ∧ okB c ∧ ∀ H', Same H H' → Q (.bl (arePair b c)) H'
theorem c_are_pair (T : Txt K mg) : Cal P w K mg base 1 "are_pair" (sp_are_pair K) [] := by
  have sc := sc_are_pair
  refine cal_of T.d_are_pair sc (fun _ _ _ _ _ _ us hl => match us, hl with | [_, _], _ => rfl) (fun vs H Q E h => ?_) (fun f cdv A outer s H vs Q E hr h => ?_)
  · obtain ⟨x, y, rfl, _⟩ := h
    rfl
  · obtain ⟨x, y, rfl, h⟩ := h
    obtain ⟨b, c, hx, hy, ob, oc, q⟩ := h
    have hx' := hx
    have hy' := hy
    obtain ⟨a, r, rfl, ha, hr1⟩ := hx
    obtain ⟨a2, r2, rfl, ha2, hr2⟩ := hy
    have q0 := q H (Same.refl H)
    refine ⟨_, (pss_cons (ps_if (PW.pt (pw_or (pt_cmpR op_ne (pe_ix ix_tup (pv 0) pe_int (fun _ _ => rfl)) (pe_ix ix_tup (pv 1) pe_int (fun _ _ => rfl)) (nomark _)) (pw_or1 (pt_cmpR op_eq (pe_ix ix_tup (pv 0) pe_int (fun _ _ => rfl)) (pe_ix ix_tup (pv 1) pe_int (fun _ _ => rfl)) (nomark _))))) (pss_one (ps_ret pe_bl)) pss_nil)
  (C8.pss_cut (ps_asg (pe_ifExp (pt_cmpR op_le (pe_callB call_len_seq rfl T.m_len (by decide +kernel) (pa_cons (pe_ix ix_tup (pv 0) pe_int (fun _ _ => rfl)) pa_nil)) (pe_callB call_len_seq rfl T.m_len (by decide +kernel) (pa_cons (pe_ix ix_tup (pv 1) pe_int (fun _ _ => rfl)) pa_nil)) (nomark _)) (pe_tup (pa_cons (pv 0) (pa_cons (pv 1) pa_nil))) (pe_tup (pa_cons (pv 1) (pa_cons (pv 0) pa_nil)))) (pg_tup rfl (pgs_cons (pg_name (i := 2) sc.nd rfl (Or.inl rfl)) (pgs_cons (pg_name (i := 3) sc.nd rfl (Or.inl rfl)) pgs_nil))))
  (pss_cons (ps_if (pt_cmpR (op_eqD hr.units) (pe_ix ix_tup (pv 2) pe_int (fun _ _ => rfl)) (pe_ix ix_tup (pv 3) pe_int (fun _ _ => rfl)) (nomark _)) (pss_one (ps_ret pe_bl)) pss_nil)
  (pss_one (ps_ret (pe_and (pe_cmpR (op_eqD hr.units) (pe_slice sl_tupA (pe_ix ix_tup (pv 3) pe_int (fun _ _ => rfl)) po_none (po_some (pe_un un_neg pe_int))) (pe_ix ix_tup (pv 2) pe_int (fun _ _ => rfl)) (nomark _)) (pe_one (pe_cmpR op_ne (pe_op op_mod (pe_callB call_len_seq rfl T.m_len (by decide +kernel) (pa_cons (pe_ix ix_tup (pv 2) pe_int (fun _ _ => rfl)) pa_nil)) pe_int) (pe_ix ix_tup (pv 3) pe_int (fun _ _ => rfl)) (nomark _))))))))), ?_⟩
    refine ⟨_, rfl, a, _, 0, .str b.1, rfl, rfl, SqT.of ha, rfl, _, rfl, a2, _, 0, .str c.1, rfl, rfl, SqT.of ha2, rfl, rfl, _, rfl, ?_⟩
    rw [decS]
    refine ite2 (fun z => iteT ?_) (fun z => ?_)
    · have n : ¬ b.1 = c.1 := by
        intro e
        rw [decide_eq_true e] at z
        cases z
      have e : arePair b c = false := by
        unfold arePair
        rw [decide_eq_false n, Bool.false_and]
      rw [e] at q0
      exact q0
    have n : b.1 = c.1 := by
      by_cases e : b.1 = c.1
      · exact e
      · rw [decide_eq_false e] at z
        exact absurd rfl z
    refine ⟨_, rfl, a, _, 1, .int b.2.1, rfl, rfl, SqT.of ha, rfl, _, rfl, a2, _, 1, .int c.2.1, rfl, rfl, SqT.of ha2, rfl, rfl, _, rfl, ?_⟩
    rw [decI]
    refine ite2 (fun z => ?_) (fun z => ?_)
    · have e : arePair b c = false := by
        unfold arePair
        rw [z, Bool.not_true, Bool.false_and, Bool.and_false]
      rw [e] at q0
      exact q0
    have sd : ¬ b.2.1 = c.2.1 := of_decide_eq_false (Bool.eq_false_iff.mpr z)
    refine ⟨fun σ H1 => ∃ s l sb lb, σ = [some (.ref a), some (.ref a2), some s, some l] ∧ Same H H1 ∧ BoardAt H1 s sb ∧ BoardAt H1 l lb ∧ okB sb ∧ okB lb ∧ arePair b c = (decide (sb.2.2 = lb.2.2) || (decide (lb.2.2.dropLast = sb.2.2) && !decide ((sb.2.2.length : Int) % 2 = lb.2.1))), ?_, ?_⟩
    · refine ⟨_, rfl, a, _, 2, .ref r, rfl, rfl, SqT.of ha, rfl, r, _, rfl, .inr (SqT.of hr1), _, rfl, a2, _, 2, .ref r2, rfl, rfl, SqT.of ha2, rfl, r2, _, rfl, .inr (SqT.of hr2), _, _, rfl, rfl, _, rfl, ?_⟩
      rw [List.length_map, List.length_map]
      refine ite2 (fun z => ?_) (fun z => ?_)
      · have l : b.2.2.length ≤ c.2.2.length := by
          have := of_decide_eq_true z
          omega
        refine ⟨_, rfl, _, rfl, l2, fun t ht => ?_⟩
        have g := same_new (o := .tup [V.ref a, V.ref a2]) ht
        refine ⟨t, [.ref a, .ref a2], rfl, SqT.of upd_same, rfl, _, _, rfl, _, _, rfl, rfl, ?_⟩
        exact ⟨_, _, b, c, rfl, g, hx'.mono (same_tups g), hy'.mono (same_tups g), ob, oc, pair_short n sd l⟩
      · have l : c.2.2.length ≤ b.2.2.length := by
          have := of_decide_eq_false (Bool.eq_false_iff.mpr z)
          omega
        refine ⟨_, rfl, _, rfl, l2, fun t ht => ?_⟩
        have g := same_new (o := .tup [V.ref a2, V.ref a]) ht
        refine ⟨t, [.ref a2, .ref a], rfl, SqT.of upd_same, rfl, _, _, rfl, _, _, rfl, rfl, ?_⟩
        exact ⟨_, _, c, b, rfl, g, hy'.mono (same_tups g), hx'.mono (same_tups g), oc, ob, (pair_swap b c).trans (pair_short n.symm (fun e => sd e.symm) l)⟩
    · rintro σ H1 ⟨s, l, sb, lb, rfl, g, ⟨sa, sr, rfl, hsa, hsr⟩, ⟨la, lr, rfl, hla, hlr⟩, os, ol, e⟩
      rw [e] at q
      refine ⟨_, rfl, sa, _, 2, .ref sr, rfl, rfl, SqT.of hsa, rfl, _, rfl, la, _, 2, .ref lr, rfl, rfl, SqT.of hla, rfl, rowD sb.2.2, rowD lb.2.2, dp_row hsr, dp_row hlr, shaped_row os.lay, shaped_row ol.lay, _, rfl, ?_⟩
      rw [eqv_row]
      refine ite2 (fun z => ?_) (fun z => ?_)
      · rw [z, Bool.true_or] at q
        exact q H1 g
      · rw [Bool.eq_false_iff.mpr z, Bool.false_or] at q
        refine ⟨_, rfl, la, _, 2, .ref lr, rfl, rfl, SqT.of hla, rfl, 1, rfl, _, rfl, sl_last hlr fun d H2 g2 hd => ?_⟩
        rw [← List.map_dropLast] at hd
        refine ⟨_, rfl, sa, _, 2, .ref sr, rfl, rfl, SqT.of (g2 _ _ hsa), rfl, rowD lb.2.2.dropLast, rowD sb.2.2, dp_row hd, dp_row (g2 _ _ hsr), shaped_row (fun z hz => ol.lay z ((List.dropLast_sublist lb.2.2).subset hz)), shaped_row os.lay, _, rfl, ?_⟩
        rw [eqv_row]
        refine ite2 (fun z => ?_) (fun z => ?_)
        · rw [z, Bool.true_and] at q
          refine ⟨_, rfl, sa, _, 2, .ref sr, rfl, rfl, SqT.of (g2 _ _ hsa), rfl, sr, _, rfl, .inr (SqT.of (g2 _ _ hsr)), _, _, rfl, rfl, (by show (0 : Int) < 2; decide), _, rfl, la, _, 1, .int lb.2.1, rfl, rfl, SqT.of (g2 _ _ hla), rfl, rfl, ?_⟩
          show Q (V.bl (!decide (V.int (((sb.2.2.map V.str).length : Nat) % 2) = V.int lb.2.1))) H2
          rw [decI, List.length_map]
          exact q H2 (g.trans g2)
        · rw [Bool.eq_false_iff.mpr z, Bool.false_and] at q
          exact q H2 (g.trans g2)
end
end K21
namespace K21
open PySem L2 Nm
open C8 (Cal Mak pe_c pe_mk pe_gc)
open RZ (ItzT pi_zipA)
section
variable {P : Program} {w : World} {K : PySem.W.Frag} {mg : Str → Option Value} {base : Heap}
def sp_hall_of (K : PySem.W.Frag) : Sp := fun vs H Q _ => ∃ (a : Addr), vs = [.ref a] ∧ ∃ bs, BoardsAt H a bs ∧ (∀ b ∈ bs, okB b) ∧ 1 ≤ bs.length ∧ bs.length ≤ 60 ∧ ∀ p H', HallAt K H' p bs → Same H H' → Q (.ref p) H'
theorem c_hall_of (T : Txt K mg) : Cal P w K mg base 7 "hall_of" (sp_hall_of K) [] := by
  obtain ⟨C, C_Hall⟩ := c_Hall (P := P) (w := w) (base := base) T
  have C_names_of := c_names_of (P := P) (w := w) (base := base) T
  have sc := sc_hall_of
  refine cal_of (k := 6) T.d_hall_of sc (fun _ _ _ _ _ _ us hl => match us, hl with | [_], _ => rfl) (fun vs H Q E h => ?_) (fun f cdv A outer s H vs Q E hr h => ?_)
  · obtain ⟨a, rfl, _⟩ := h
    rfl
  · obtain ⟨a, rfl, bs, hb, ok, l1, l60, q⟩ := h
    obtain ⟨xs, ha, pr⟩ := id hb
    refine ⟨_, (pss_cons (ps_set (i := 1) sc.nd rfl (Or.inl rfl) (pe_mk C_Hall hr (by omega) rfl (pa_cons (pe_slice sl_tupA (pv 0) po_none (po_some pe_int)) pa_nil)))
  (pss_cons (ps_fld (pv 1) (pv 0) rfl)
  (pss_cons (ps_fld (pv 1) (pe_c C_names_of hr (by omega) rfl (pa_cons (pv 0) pa_nil)) rfl)
  (pss_one (ps_ret (pv 1)))))), ?_⟩
    refine ⟨_, rfl, _, rfl, sl_take (k := 1) ha fun r H1 g1 hr1 => ?_⟩
    intro x dx hx hdx ne
    have g2 : Same H1 (upd (upd H1 dx (.own x)) x (.ins C dx [])) := fun c o ho => by
      rw [upd_ne (ne_of_none ho hx), upd_ne (ne_of_none ho hdx)]
      exact ho
    have g02 := g1.trans g2
    refine ⟨x, dx, r, bs.take 1, rfl, upd_same, ⟨xs.take 1, g2 _ _ hr1, paired_take (paired_mono (fun _ _ z => z.mono (same_tups g02)) pr) 1⟩, fun b hm => ok b (List.mem_of_mem_take hm), by rw [List.length_take]; omega, by rw [List.length_take]; omega, fun H4 fs h4 lf hh kp => ⟨rfl, ?_⟩⟩
    obtain ⟨C', dx', fs', a', n', ys', cl, nB, nN, h4', _⟩ := hh
    rw [h4] at h4'
    cases h4'
    have keep : ∀ b o, H b = some o → b ≠ x := fun b o ho => ne_of_none (g1 _ _ ho) hx
    have g4 : Same H H4 := fun b o ho => kp b o (g02 _ _ ho) (keep b o ho)
    refine ⟨_, rfl, _, rfl, x, C, dx, fs, rfl, h4, cl, nB, by omega, ?_⟩
    have g5 : Same H (upd H4 x (.ins C dx (putF "boards" (.ref a) fs))) := fun b o ho => by
      rw [upd_ne (keep b o ho)]
      exact g4 b o ho
    refine ⟨_, rfl, a, bs, rfl, hb.mono (same_tups g5), by omega, fun H6 n ys g6 hn h6 nm => ?_⟩
    have hx6 : H6 x = some (.ins C dx (putF "boards" (.ref a) fs)) := g6 _ _ upd_same
    have l5 := putF_len "boards" (.ref a) fs
    refine ⟨_, rfl, x, C, dx, _, rfl, hx6, cl, nN, by omega, _, rfl, ?_⟩
    have g7 : Same H (upd H6 x (.ins C dx (putF "names" (.ref n) (putF "boards" (.ref a) fs)))) := fun b o ho => by
      rw [upd_ne (keep b o ho)]
      exact g6 _ _ (g5 b o ho)
    have nx : n ≠ x := fun e => by
      rw [e, hx6] at h6
      cases h6
    refine q x _ ⟨C, dx, _, a, n, ys, cl, nB, nN, upd_same, ?_, ?_, hb.mono (same_tups g7), ?_, nm⟩ g7
    · rw [lookup_putF, if_neg nb_ne, lookup_putF, if_pos rfl]
    · rw [lookup_putF, if_pos rfl]
    · rw [upd_ne nx]
      exact h6
end
end K21
namespace K21
open PySem L2 Nm
open C8 (Cal Mak pe_c pe_mk pe_gc)
open RZ (ItzT pi_zipA)
section
variable {P : Program} {w : World} {K : PySem.W.Frag} {mg : Str → Option Value} {base : Heap}
def sp_turned (K : PySem.W.Frag) : Sp := fun vs H Q _ => ∃ (h0 : Addr), vs = [.ref h0] ∧ ∃ bs, HallAt K H h0 bs ∧ (∀ b ∈ bs, okB b) ∧ 1 ≤ bs.length ∧ bs.length ≤ 60 ∧ ∀ p H', HallAt K H' p (bs.map turnB) → Same H H' → Q (.ref p) H'
theorem c_turned (T : Txt K mg) : Cal P w K mg base 8 "turned" (sp_turned K) [] := by
  have C_hall_of := c_hall_of (P := P) (w := w) (base := base) T
  have sc := sc_turned
  refine cal_of T.d_turned sc (fun _ _ _ _ _ _ us hl => match us, hl with | [_], _ => rfl) (fun vs H Q E h => ?_) (fun f cdv A outer s H vs Q E hr h => ?_)
  · obtain ⟨h0, rfl, _⟩ := h
    rfl
  · obtain ⟨h0, rfl, h⟩ := h
    obtain ⟨bs, hH, ok, l1, l60, q⟩ := h
    obtain ⟨C, dx, fs, a, n, ys, cl, nB, nN, hp, fb, fn, ⟨xs, ha, pr⟩, hn', nm⟩ := id hH
    have el : xs.length = bs.length := paired_len pr
    refine ⟨_, (pss_one (ps_ret (pe_c C_hall_of hr (by omega) rfl (pa_cons (pe_callTy call_tuple_of rfl T.m_tuple (by decide +kernel) (pa_cons (pe_lc (own := [("name", 1), ("side", 2), ("begun", 3)]) (g := gTup K 3 (gCons (gName 1) (gCons (gName 2) (gCons (gName 3) gNil)))) rfl sc.nd (pi_tup (pe_fld (pv 0) rfl)) (blkOk_by (own := [("name", 1), ("side", 2), ("begun", 3)]) (N := ["hall", "name", "side", "begun"]) (sc := defScope s_turned) (by decide +kernel)) (fun _ _ _ _ _ => (pg_tup rfl (pgs_cons (pg_name (i := 1) sc.nd rfl (Or.inl rfl)) (pgs_cons (pg_name (i := 2) sc.nd rfl (Or.inl rfl)) (pgs_cons (pg_name (i := 3) sc.nd rfl (Or.inl rfl)) pgs_nil))))) (fun _ _ _ _ _ => pts_nil) (fun _ _ _ _ _ => (pe_tup (pa_cons (pv 1) (pa_cons (pe_op op_sub pe_int (pv 2)) (pa_cons (pv 3) pa_nil)))))) pa_nil)) pa_nil)))), ?_⟩
    refine ⟨_, rfl, h0, C, dx, fs, _, rfl, hp, cl, nB, fb, a, rfl, ⟨_, SqT.of ha⟩, fun D hD => ?_⟩
    refine lc_tup (K := K) (a := a) (xs := xs) (fun i H1 => ∃ zs, H1 D = some (.lst zs) ∧ Paired (BoardAt H1) zs ((bs.take i).map turnB) ∧ zs.length ≤ i ∧ Same H H1) ⟨[], upd_same, .nil, Nat.zero_le _, same_new hD⟩ (fun i H1 _ ⟨_, _, _, _, g⟩ => SqT.of (g _ _ ha)) ?_ ?_
    · rintro i x H1 hx ⟨zs, h1, pz, lz, g⟩
      obtain ⟨b, hb, c, r, rfl, hc, hr1⟩ := paired_at pr i x hx
      have hi : i < xs.length := (List.getElem?_eq_some_iff.mp hx).1
      refine ⟨c, _, rfl, SqT.of (g _ _ hc), rfl, _, _, rfl, _, _, rfl, _, _, rfl, rfl, rfl, ?_⟩
      refine ⟨_, rfl, _, rfl, _, _, rfl, rfl, _, rfl, (by show 3 ≤ PySem.sizeLine; decide), fun t ht => ?_⟩
      have g2 := same_new (o := .tup [V.str b.1, V.int (1 - b.2.1), V.ref r]) ht
      refine ⟨zs, g2 _ _ h1, ?_, zs ++ [.ref t], upd_same, ?_, by rw [List.length_append]; exact Nat.succ_le_succ lz, same_mut (g.trans g2) hD⟩
      · have b1 : (1000 : Nat) < PySem.sizeLine := by decide
        omega
      · rw [take_one hb, List.map_append]
        have kd : ∀ e us, upd H1 t (.tup [V.str b.1, V.int (1 - b.2.1), V.ref r]) e = some (.tup us) → upd (upd H1 t (.tup [V.str b.1, V.int (1 - b.2.1), V.ref r])) D (.lst (zs ++ [.ref t])) e = some (.tup us) := fun e us he => by
          rw [upd_ne (fun z => by rw [z, g2 _ _ h1] at he; cases he)]
          exact he
        refine paired_snoc (paired_mono (fun _ _ z => (z.mono (same_tups g2)).mono kd) pz) ⟨t, r, rfl, kd _ _ upd_same, kd _ _ (g2 _ _ (g _ _ hr1))⟩
    · rintro H1 ⟨zs, h1, pz, lz, g⟩
      rw [el, List.take_length] at pz
      refine ⟨D, zs, rfl, .inl ⟨SqL.of h1, fun p hp1 => ?_⟩⟩
      have g2 := same_new (o := .tup zs) hp1
      refine ⟨p, rfl, bs.map turnB, ⟨zs, upd_same, paired_mono (fun _ _ z => z.mono (same_tups g2)) pz⟩, fun b hb => ?_, by rw [List.length_map]; exact l1, by rw [List.length_map]; exact l60, fun p' H' hh g3 => q p' H' hh ((g.trans g2).trans g3)⟩
      obtain ⟨b', hb', rfl⟩ := List.mem_map.mp hb
      exact (ok b' hb').turn
end
end K21
namespace K21
open PySem L2 Nm
open C8 (Cal Mak pe_c pe_mk pe_gc)
open RZ (ItzT pi_zipA)
section
variable {P : Program} {w : World} {K : PySem.W.Frag} {mg : Str → Option Value} {base : Heap}
def sp_joined (K : PySem.W.Frag) : Sp := fun vs H Q _ => ∃ (h0 h1 : Addr), vs = [.ref h0, .ref h1] ∧ ∃ bs cs, HallAt K H h0 bs ∧ HallAt K H h1 cs ∧ (∀ b ∈ bs, okB b) ∧ (∀ b ∈ cs, okB b) ∧ 1 ≤ bs.length ∧ bs.length + cs.length ≤ 60 ∧ ∀ p H', HallAt K H' p (bs ++ cs) → Same H H' → Q (.ref p) H'
theorem c_joined (T : Txt K mg) : Cal P w K mg base 8 "joined" (sp_joined K) [] := by
  have C_hall_of := c_hall_of (P := P) (w := w) (base := base) T
  have sc := sc_joined
  refine cal_of T.d_joined sc (fun _ _ _ _ _ _ us hl => match us, hl with | [_, _], _ => rfl) (fun vs H Q E h => ?_) (fun f cdv A outer s H vs Q E hr h => ?_)
  · obtain ⟨h0, h1, rfl, _⟩ := h
    rfl
  · obtain ⟨h0, h1, rfl, h⟩ := h
    obtain ⟨bs, cs, hH, hH2, ok, ok2, l1, l60, q⟩ := h
    obtain ⟨C, dx, fs, a, n, ys, cl, nB, nN, hp, fb, fn, ⟨xs, ha, pr⟩, hn', nm⟩ := id hH
    obtain ⟨C2, dx2, fs2, a2, n2, ys2, cl2, nB2, nN2, hp2, fb2, fn2, ⟨xs2, ha2, pr2⟩, hn2', nm2⟩ := id hH2
    have el : xs.length = bs.length := paired_len pr
    have el2 : xs2.length = cs.length := paired_len pr2
    refine ⟨_, (pss_one (ps_ret (pe_c C_hall_of hr (by omega) rfl (pa_cons (pe_op op_catA (pe_fld (pv 0) rfl) (pe_fld (pv 1) rfl)) pa_nil)))), ?_⟩
    refine ⟨_, rfl, h0, C, dx, fs, _, rfl, hp, cl, nB, fb, _, rfl, h1, C2, dx2, fs2, _, rfl, hp2, cl2, nB2, fb2, cat_tups ha ha2 (by omega) fun r H1 g hr1 => ?_⟩
    refine ⟨r, rfl, bs ++ cs, ⟨xs ++ xs2, hr1, paired_mono (fun _ _ z => z.mono (same_tups g)) (paired_app pr pr2)⟩, fun b hb => ?_, by rw [List.length_append]; omega, by rw [List.length_append]; omega, fun p' H' hh g3 => q p' H' hh (g.trans g3)⟩
    rcases List.mem_append.mp hb with z | z
    · exact ok b z
    · exact ok2 b z
end
end K21
namespace K21
open PySem L2 Nm
open C8 (Cal Mak pe_c pe_mk pe_gc)
open RZ (ItzT pi_zipA)
section
variable {P : Program} {w : World} {K : PySem.W.Frag} {mg : Str → Option Value} {base : Heap}
def sp_pairs_of (K : PySem.W.Frag) : Sp := fun vs H Q _ => ∃ (a : Addr), vs = [.ref a] ∧ ∃ bs, BoardsAt H a bs ∧ (∀ b ∈ bs, okB b) ∧ bs.length ≤ 60 ∧ ∀ p H', H p = none → PrsAt H' p (pairsOf (onB arePair bs) bs.length) → Same H H' → Q (.ref p) H'
theorem c_pairs_of (T : Txt K mg) : Cal P w K mg base 2 "pairs_of" (sp_pairs_of K) [] := by
  have C_are_pair := c_are_pair (P := P) (w := w) (base := base) T
  have sc := sc_pairs_of
  refine cal_of T.d_pairs_of sc (fun _ _ _ _ _ _ us hl => match us, hl with | [_], _ => rfl) (fun vs H Q E h => ?_) (fun f cdv A outer s H vs Q E hr h => ?_)
  · obtain ⟨a, rfl, _⟩ := h
    rfl
  · obtain ⟨a, rfl, h⟩ := h
    obtain ⟨bs, ⟨xs, ha, pr⟩, ok, l60, q⟩ := h
    have el : xs.length = bs.length := paired_len pr
    refine ⟨_, (pss_cons (ps_set (i := 1) sc.nd rfl (Or.inl rfl) (pe_lst pa_nil))
  (pss_cons (ps_for PassesOwn.never rfl (pi_range1 rfl T.m_range (pa_cons (pe_callB call_len_seq rfl T.m_len (by decide +kernel) (pa_cons (pv 0) pa_nil)) pa_nil)) (pg_name (i := 2) sc.nd rfl (Or.inr rfl)) (pss_one (ps_expr (pe_bm PySem.F.plainAttrs_list PySem.F.slot_list_extend PySem.F.type_list_extend mt_extend (pv 1) (pa_cons (pe_lc (own := [("other", 3)]) (g := gName 3) rfl sc.nd (pi_range2 rfl T.m_range (pa_cons (pe_op op_add (pv 2) pe_int) (pa_cons (pe_callB call_len_seq rfl T.m_len (by decide +kernel) (pa_cons (pv 0) pa_nil)) pa_nil))) (blkOk_by (own := [("other", 3)]) (N := ["boards", "found", "one", "other"]) (sc := defScope s_pairs_of) (by decide +kernel)) (fun _ _ _ _ _ => (pg_name (i := 3) sc.nd rfl (Or.inl rfl))) (fun _ _ _ _ _ => (pts_one (pt_val (pe_c C_are_pair hr (by omega) rfl (pa_cons (pe_ix (r := rIxT K) ix_tup (pv 0) (pv 2) (fun _ _ => rfl)) (pa_cons (pe_ix (r := rIxT K) ix_tup (pv 0) (pv 3) (fun _ _ => rfl)) pa_nil)))))) (fun _ _ _ _ _ => (pe_tup (pa_cons (pv 2) (pa_cons (pv 3) pa_nil))))) pa_nil)))))
  (pss_one (ps_ret (pv 1))))), ?_⟩
    refine ⟨(by show 0 ≤ PySem.sizeLine; decide), fun D hD => ?_⟩
    have g0 := same_new (o := .lst []) hD
    refine ⟨_, rfl, a, _, rfl, .inr (SqT.of (g0 _ _ ha)), _, rfl, by omega, by omega, ?_⟩
    refine for_range (lo := 0) (n := ((xs.length : Nat) : Int).toNat) (fun i σ H1 => ∃ v3 v4, σ = [some (.ref a), some (.ref D), v3, v4] ∧ PrsAt H1 D (pairsUp (onB arePair bs) bs.length i) ∧ (pairsUp (onB arePair bs) bs.length i).length ≤ i * 60 ∧ Same H H1)
      ⟨_, _, rfl, ⟨[], upd_same, .nil⟩, Nat.zero_le _, g0⟩ ?_ ?_
    · rintro i σ H1 hi ⟨v3, v4, rfl, ⟨ws, hw, pw⟩, lw, g⟩
      have hi' : i < bs.length := by omega
      obtain ⟨x, hx⟩ : ∃ x, xs[i]? = some x := ⟨xs[i]'(by omega), List.getElem?_eq_getElem (by omega)⟩
      obtain ⟨b, hb, hxb⟩ := paired_at pr i x hx
      refine ⟨_, rfl, .inl ⟨rfl, _, SqL.of hw⟩, ?_⟩
      refine ⟨_, rfl, _, _, rfl, rfl, _, rfl, a, _, rfl, .inr (SqT.of (g _ _ ha)), _, _, rfl, ⟨by omega, by omega, by omega, by omega⟩, fun D2 hD2 => ?_⟩
      have nD : D2 ≠ D := (ne_of_none hw hD2).symm
      refine lc_range (fun k H2 => ∃ zs, H2 D2 = some (.lst zs) ∧ Paired (PrAt H2) zs (rowUp (onB arePair bs) i k) ∧ zs.length ≤ k ∧ Same H1 H2) ⟨[], upd_same, .nil, Nat.zero_le _, same_new hD2⟩ ?_ ?_
      · rintro k H2 hk ⟨zs, hz, pz, lz, g2⟩
        have hk' : i + 1 + k < bs.length := by omega
        obtain ⟨y, hy⟩ : ∃ y, xs[i + 1 + k]? = some y := ⟨xs[i + 1 + k]'(by omega), List.getElem?_eq_getElem (by omega)⟩
        obtain ⟨c, hc, hyc⟩ := paired_at pr _ y hy
        have g12 := g.trans g2
        refine ⟨rfl, ?_⟩
        refine ⟨_, rfl, _, rfl, a, _, _, x, rfl, rfl, SqT.of (g12 _ _ ha), by rw [Int.zero_add]; exact atI_nat hx, _, rfl, _, rfl, a, _, _, y, rfl, rfl, SqT.of (g12 _ _ ha), by rw [show (0 + (i : Int) + 1 + (k : Int)) = ((i + 1 + k : Nat) : Int) by omega]; exact atI_nat hy, ?_⟩
        refine ⟨x, y, rfl, b, c, hxb.mono (same_tups g12), hyc.mono (same_tups g12), ok b (List.mem_of_getElem? hb), ok c (List.mem_of_getElem? hc), fun H3 g3 => ⟨_, rfl, ?_⟩⟩
        have g13 := g2.trans g3
        refine ite2 (fun z => ?_) (fun z => ?_)
        · refine ⟨_, rfl, _, rfl, l2, fun t ht => ?_⟩
          have gt := same_new (o := .tup [V.int (0 + (i : Int)), V.int (0 + (i : Int) + 1 + (k : Int))]) ht
          refine ⟨zs, gt _ _ (g3 _ _ hz), ?_, zs ++ [.ref t], upd_same, ?_, by rw [List.length_append]; exact Nat.succ_le_succ lz, same_mut (g13.trans gt) hD2⟩
          · have b1 : (1000 : Nat) < PySem.sizeLine := by decide
            omega
          · rw [rowUp_one, onB_at hb hc, if_pos z]
            have kd : ∀ e us, upd H3 t (.tup [V.int (0 + (i : Int)), V.int (0 + (i : Int) + 1 + (k : Int))]) e = some (.tup us) → upd (upd H3 t (.tup [V.int (0 + (i : Int)), V.int (0 + (i : Int) + 1 + (k : Int))])) D2 (.lst (zs ++ [.ref t])) e = some (.tup us) := fun e us he => by
              rw [upd_ne (fun w => by rw [w, gt _ _ (g3 _ _ hz)] at he; cases he)]
              exact he
            refine paired_snoc (paired_mono (fun _ _ w => (w.mono (same_tups (g3.trans gt))).mono kd) pz) ⟨t, rfl, ?_⟩
            rw [kd _ _ upd_same]
            show some (HO.tup [V.int (0 + (i : Int)), V.int (0 + (i : Int) + 1 + (k : Int))]) = some (HO.tup [V.int (i : Int), V.int ((i + 1 + k : Nat) : Int)])
            rw [show (0 + (i : Int) + 1 + (k : Int)) = ((i + 1 + k : Nat) : Int) by omega, Int.zero_add]
        · refine ⟨zs, g3 _ _ hz, ?_, by omega, g13⟩
          rw [rowUp_one, onB_at hb hc, if_neg z, List.append_nil]
          exact paired_mono (fun _ _ w => w.mono (same_tups g3)) pz
      · rintro H2 ⟨zs, hz, pz, lz, g2⟩
        have ew : ws.length = (pairsUp (onB arePair bs) bs.length i).length := paired_len pw
        have b1 : (10000 : Nat) < PySem.sizeLine := by decide
        have lz' : zs.length ≤ 60 := by omega
        have e1 : ((xs.length : Int) - (0 + (i : Int) + 1)).toNat = bs.length - (i + 1) := by omega
        rw [e1] at pz
        have ez : zs.length = (rowUp (onB arePair bs) i (bs.length - (i + 1))).length := paired_len pz
        refine ⟨D, D2, ws, zs, rfl, rfl, g2 _ _ hw, hz, by omega, ?_⟩
        have kd : ∀ e us, H2 e = some (.tup us) → upd H2 D (.lst (ws ++ zs)) e = some (.tup us) := fun e us he => by
          rw [upd_ne (fun w => by rw [w, g2 _ _ hw] at he; cases he)]
          exact he
        refine ⟨_, _, rfl, ⟨ws ++ zs, upd_same, ?_⟩, ?_, same_mut (g.trans g2) hD⟩
        · rw [pairsUp_one]
          exact paired_app (paired_mono (fun _ _ w => (w.mono (same_tups g2)).mono kd) pw) (paired_mono (fun _ _ w => w.mono kd) pz)
        · rw [pairsUp_one, List.length_append]
          omega
    · rintro σ H1 ⟨v3, v4, rfl, hw, lw, g⟩
      have e1 : ((xs.length : Nat) : Int).toNat = bs.length := by omega
      rw [e1] at hw
      exact ⟨_, rfl, q D H1 hD hw g⟩
end
end K21
namespace K21
open PySem L2 Nm
open C8 (Cal Mak pe_c pe_mk pe_gc)
open RZ (ItzT pi_zipA)
section
variable {P : Program} {w : World} {K : PySem.W.Frag} {mg : Str → Option Value} {base : Heap}
def sp_pairs (K : PySem.W.Frag) : Sp := fun vs H Q _ => ∃ (h0 : Addr), vs = [.ref h0] ∧ ∃ bs, HallAt K H h0 bs ∧ (∀ b ∈ bs, okB b) ∧ bs.length ≤ 60 ∧ ∀ p H', H p = none → PrsAt H' p (pairsOf (onB arePair bs) bs.length) → Same H H' → Q (.ref p) H'
theorem c_pairs (T : Txt K mg) : Cal P w K mg base 3 "pairs" (sp_pairs K) [] := by
  have C_pairs_of := c_pairs_of (P := P) (w := w) (base := base) T
  have sc := sc_pairs
  refine cal_of T.d_pairs sc (fun _ _ _ _ _ _ us hl => match us, hl with | [_], _ => rfl) (fun vs H Q E h => ?_) (fun f cdv A outer s H vs Q E hr h => ?_)
  · obtain ⟨h0, rfl, _⟩ := h
    rfl
  · obtain ⟨h0, rfl, h⟩ := h
    obtain ⟨bs, hH, ok, l60, q⟩ := h
    obtain ⟨C, dx, fs, a, n, ys, cl, nB, nN, hp, fb, fn, ha, hn', nm⟩ := id hH
    refine ⟨_, (pss_one (ps_ret (pe_c C_pairs_of hr (by omega) rfl (pa_cons (pe_fld (pv 0) rfl) pa_nil)))), ?_⟩
    exact ⟨_, rfl, h0, C, dx, fs, _, rfl, hp, cl, nB, fb, a, rfl, bs, ha, ok, l60, q⟩
end
end K21
namespace K21
open PySem L2 Nm
open C8 (Cal Mak pe_c pe_mk pe_gc)
open RZ (ItzT pi_zipA)
theorem kit_tl_tup {K : PySem.W.Frag} : PySem.W.kitAny K (.type "tuple") [.type "tuple", .type "list"] = some true := kitAny_cons (b := true) (kit_ty (by decide +kernel)) (fun z => absurd z (by decide)) (fun _ => rfl)
theorem kit_tl_lst {K : PySem.W.Frag} : PySem.W.kitAny K (.type "list") [.type "tuple", .type "list"] = some true := kitAny_cons (b := false) (kit_ty (by decide +kernel)) (fun _ => kitAny_cons (b := true) (kit_ty (by decide +kernel)) (fun z => absurd z (by decide)) (fun _ => rfl)) (fun z => absurd z (by decide))
theorem kit_tl_int {K : PySem.W.Frag} : PySem.W.kitAny K (.type "int") [.type "tuple", .type "list"] = some false := kitAny_cons (b := false) (kit_ty (by decide +kernel)) (fun _ => kitAny_cons (b := false) (kit_ty (by decide +kernel)) (fun _ => kitAny_nil) (fun z => absurd z (by decide))) (fun z => absurd z (by decide))
theorem zip_all {α : Type} [DecidableEq α] : ∀ {ps qs : List α}, ps.length = qs.length → ((ps.zip qs).map (fun z => decide (z.1 = z.2))).all id = decide (ps = qs)
  | [], [], _ => by simp
  | [], _ :: _, h => by simp at h
  | _ :: _, [], h => by simp at h
  | p :: ps, q :: qs, h => by
    have ih := zip_all (ps := ps) (qs := qs) (by simpa using h)
    rw [List.zip_cons_cons, List.map_cons, List.all_cons, ih]
    by_cases h1 : p = q <;> by_cases h2 : ps = qs <;> simp [h1, h2]
section
variable {P : Program} {w : World} {K : PySem.W.Frag} {mg : Str → Option Value} {base : Heap}
/-- two things that are told by one word each -/
def sp_isR {α : Type} [DecidableEq α] (R : Hp → V → α → Prop) : Sp := fun vs H Q _ => ∃ (x y : V), vs = [x, y] ∧ ∃ p q, R H x p ∧ R H y q ∧ ∀ H', Same H H' → Q (.bl (decide (p = q))) H'
/-- two tuples, or two lists, of such things -/
def sp_isS {α : Type} [DecidableEq α] (tup : Bool) (R : Hp → V → α → Prop) : Sp := fun vs H Q _ => ∃ (a b : Addr), vs = [.ref a, .ref b] ∧ ∃ xs ys ps qs, (if tup = true then H a = some (.tup xs) ∧ H b = some (.tup ys) else H a = some (.lst xs) ∧ H b = some (.lst ys)) ∧ Paired (R H) xs ps ∧ Paired (R H) ys qs ∧ xs.length ≤ 4000 ∧
  ∀ H', Same H H' → Q (.bl (decide (ps = qs))) H'
theorem c_is_int (T : Txt K mg) : Cal P w K mg base 1 "_law_is" (sp_isR fun _ x (i : Int) => x = .int i) [] := by
  have C__law_is : Cal P w K mg base 0 "_law_is" (fun _ _ _ _ => False) [] := cal_void T.d__law_is (ps := ["told", "due"]) (fun _ _ _ _ _ _ us hl => match us, hl with | [_, _], _ => rfl) fun vs H Q E h => h
  have sc := sc__law_is
  refine cal_of (k := 0) T.d__law_is sc (fun _ _ _ _ _ _ us hl => match us, hl with | [_, _], _ => rfl) (fun vs H Q E h => ?_) (fun f cdv A outer s H vs Q E hr h => ?_)
  · obtain ⟨x, y, rfl, _⟩ := h
    rfl
  · obtain ⟨x, y, rfl, i, j, rfl, rfl, q⟩ := h
    refine ⟨_, (pss_cons (ps_if (pt_val (pe_callB call_isiT rfl T.m_isinstance (by decide +kernel) (pa_cons (pv 1) (pa_cons (pe_tup (pa_cons (pe_bltn (v := .ty "tuple") (u := .type "tuple") rfl T.m_tuple (by decide +kernel) rfl) (pa_cons (pe_bltn (v := .ty "list") (u := .type "list") rfl T.m_list (by decide +kernel) rfl) pa_nil))) pa_nil)))) (pss_cons (ps_if (PW.pt (pw_or (pt_cmpR op_ne (pe_callB call_isi rfl T.m_isinstance (by decide +kernel) (pa_cons (pv 0) (pa_cons (pe_bltn (v := .ty "tuple") (u := .type "tuple") rfl T.m_tuple (by decide +kernel) rfl) pa_nil))) (pe_callB call_isi rfl T.m_isinstance (by decide +kernel) (pa_cons (pv 1) (pa_cons (pe_bltn (v := .ty "tuple") (u := .type "tuple") rfl T.m_tuple (by decide +kernel) rfl) pa_nil))) (nomark _)) (pw_or1 (pt_not (pt_val (pe_callB call_isiT rfl T.m_isinstance (by decide +kernel) (pa_cons (pv 0) (pa_cons (pe_tup (pa_cons (pe_bltn (v := .ty "tuple") (u := .type "tuple") rfl T.m_tuple (by decide +kernel) rfl) (pa_cons (pe_bltn (v := .ty "list") (u := .type "list") rfl T.m_list (by decide +kernel) rfl) pa_nil))) pa_nil)))))))) (pss_one (ps_ret pe_bl)) pss_nil)
  (pss_one (ps_ret (pe_and (pe_cmpR op_eq (pe_callB call_len_seq rfl T.m_len (by decide +kernel) (pa_cons (pv 0) pa_nil)) (pe_callB call_len_seq rfl T.m_len (by decide +kernel) (pa_cons (pv 1) pa_nil)) (nomark _)) (pe_one (pe_callB (cr_all rfl) rfl T.m_all (by decide +kernel) (pa_cons (pe_lc (own := [("one", 2), ("two", 3)]) (g := gTup K 2 (gCons (gName 2) (gCons (gName 3) gNil))) rfl sc.nd (pi_zipA rfl T.m_zip (pa_cons (pv 0) (pa_cons (pv 1) pa_nil))) (blkOk_by (own := [("one", 2), ("two", 3)]) (N := ["told", "due", "one", "two"]) (sc := defScope s__law_is) (by decide +kernel)) (fun _ _ _ _ _ => (pg_tup rfl (pgs_cons (pg_name (i := 2) sc.nd rfl (Or.inl rfl)) (pgs_cons (pg_name (i := 3) sc.nd rfl (Or.inl rfl)) pgs_nil)))) (fun _ _ _ _ _ => pts_nil) (fun _ _ _ _ _ => (pe_c C__law_is hr (by omega) rfl (pa_cons (pv 2) (pa_cons (pv 3) pa_nil))))) pa_nil))))))) pss_nil)
  (pss_one (ps_ret (pe_and (pe_cmpR op_eq (pe_callB call_isi rfl T.m_isinstance (by decide +kernel) (pa_cons (pv 0) (pa_cons (pe_bltn (v := .ty "bool") (u := .type "bool") rfl T.m_bool (by decide +kernel) rfl) pa_nil))) (pe_callB call_isi rfl T.m_isinstance (by decide +kernel) (pa_cons (pv 1) (pa_cons (pe_bltn (v := .ty "bool") (u := .type "bool") rfl T.m_bool (by decide +kernel) rfl) pa_nil))) (nomark _)) (pe_one (pe_cmpR op_eq (pv 0) (pv 1) (nomark _))))))), ?_⟩
    refine ⟨_, rfl, l2, fun tp htp => ?_⟩
    have g0 := same_new (o := .tup [V.ty "tuple", V.ty "list"]) htp
    refine ⟨_, tp, _, _, _, false, rfl, upd_same, .cons (.ty _) (.cons (.ty _) .nil), .base (.int j), kit_tl_int, false, rfl, ?_⟩
    refine iteF ?_
    refine ⟨_, rfl, _, _, _, _, false, rfl, .ty _, .base (.int i), is_int_bool, _, rfl, _, _, _, _, false, rfl, .ty _, .base (.int j), is_int_bool, rfl, _, rfl, ?_⟩
    refine iteP rfl ⟨_, rfl, _, rfl, rfl, ?_⟩
    show Q (V.bl (decide (V.int i = V.int j))) _
    rw [decI]
    exact q _ g0
theorem c_is_seq {α : Type} [DecidableEq α] {R : Hp → V → α → Prop} {k : Nat} (T : Txt K mg) (tup : Bool) (mono : ∀ H H', Same H H' → ∀ x p, R H x p → R H' x p) (C__law_is : Cal P w K mg base k "_law_is" (sp_isR R) []) : Cal P w K mg base (k + 1) "_law_is" (sp_isS tup R) [] := by
  have sc := sc__law_is
  refine cal_of (k := k) T.d__law_is sc (fun _ _ _ _ _ _ us hl => match us, hl with | [_, _], _ => rfl) (fun vs H Q E h => ?_) (fun f cdv A outer s H vs Q E hr h => ?_)
  · obtain ⟨a, b, rfl, _⟩ := h
    rfl
  · obtain ⟨a, b, rfl, xs, ys, ps, qs, hab, pa, pb, l4, q⟩ := h
    have ex : xs.length = ps.length := paired_len pa
    have ey : ys.length = qs.length := paired_len pb
    refine ⟨_, (pss_cons (ps_if (pt_val (pe_callB call_isiT rfl T.m_isinstance (by decide +kernel) (pa_cons (pv 1) (pa_cons (pe_tup (pa_cons (pe_bltn (v := .ty "tuple") (u := .type "tuple") rfl T.m_tuple (by decide +kernel) rfl) (pa_cons (pe_bltn (v := .ty "list") (u := .type "list") rfl T.m_list (by decide +kernel) rfl) pa_nil))) pa_nil)))) (pss_cons (ps_if (PW.pt (pw_or (pt_cmpR op_ne (pe_callB call_isi rfl T.m_isinstance (by decide +kernel) (pa_cons (pv 0) (pa_cons (pe_bltn (v := .ty "tuple") (u := .type "tuple") rfl T.m_tuple (by decide +kernel) rfl) pa_nil))) (pe_callB call_isi rfl T.m_isinstance (by decide +kernel) (pa_cons (pv 1) (pa_cons (pe_bltn (v := .ty "tuple") (u := .type "tuple") rfl T.m_tuple (by decide +kernel) rfl) pa_nil))) (nomark _)) (pw_or1 (pt_not (pt_val (pe_callB call_isiT rfl T.m_isinstance (by decide +kernel) (pa_cons (pv 0) (pa_cons (pe_tup (pa_cons (pe_bltn (v := .ty "tuple") (u := .type "tuple") rfl T.m_tuple (by decide +kernel) rfl) (pa_cons (pe_bltn (v := .ty "list") (u := .type "list") rfl T.m_list (by decide +kernel) rfl) pa_nil))) pa_nil)))))))) (pss_one (ps_ret pe_bl)) pss_nil)
  (pss_one (ps_ret (pe_and (pe_cmpR op_eq (pe_callB call_len_seq rfl T.m_len (by decide +kernel) (pa_cons (pv 0) pa_nil)) (pe_callB call_len_seq rfl T.m_len (by decide +kernel) (pa_cons (pv 1) pa_nil)) (nomark _)) (pe_one (pe_callB (cr_all rfl) rfl T.m_all (by decide +kernel) (pa_cons (pe_lc (own := [("one", 2), ("two", 3)]) (g := gTup K 2 (gCons (gName 2) (gCons (gName 3) gNil))) rfl sc.nd (pi_zipA rfl T.m_zip (pa_cons (pv 0) (pa_cons (pv 1) pa_nil))) (blkOk_by (own := [("one", 2), ("two", 3)]) (N := ["told", "due", "one", "two"]) (sc := defScope s__law_is) (by decide +kernel)) (fun _ _ _ _ _ => (pg_tup rfl (pgs_cons (pg_name (i := 2) sc.nd rfl (Or.inl rfl)) (pgs_cons (pg_name (i := 3) sc.nd rfl (Or.inl rfl)) pgs_nil)))) (fun _ _ _ _ _ => pts_nil) (fun _ _ _ _ _ => (pe_c C__law_is hr (by omega) rfl (pa_cons (pv 2) (pa_cons (pv 3) pa_nil))))) pa_nil))))))) pss_nil)
  (pss_one (ps_ret (pe_and (pe_cmpR op_eq (pe_callB call_isi rfl T.m_isinstance (by decide +kernel) (pa_cons (pv 0) (pa_cons (pe_bltn (v := .ty "bool") (u := .type "bool") rfl T.m_bool (by decide +kernel) rfl) pa_nil))) (pe_callB call_isi rfl T.m_isinstance (by decide +kernel) (pa_cons (pv 1) (pa_cons (pe_bltn (v := .ty "bool") (u := .type "bool") rfl T.m_bool (by decide +kernel) rfl) pa_nil))) (nomark _)) (pe_one (pe_cmpR op_eq (pv 0) (pv 1) (nomark _))))))), ?_⟩
    cases tup
    rotate_left
    · obtain ⟨ha, hb⟩ := hab
      refine ⟨_, rfl, l2, fun tp htp => ?_⟩
      have g0 := same_new (o := .tup [V.ty "tuple", V.ty "list"]) htp
      refine ⟨_, tp, _, _, _, true, rfl, upd_same, .cons (.ty _) (.cons (.ty _) .nil), .base (.tup (g0 _ _ hb)), kit_tl_tup, true, rfl, ?_⟩
      refine iteT ?_
      refine ⟨_, rfl, _, _, _, _, true, rfl, .ty _, .base (.tup (g0 _ _ ha)), kit_ty (by decide +kernel), _, rfl, _, _, _, _, true, rfl, .ty _, .base (.tup (g0 _ _ hb)), kit_ty (by decide +kernel), rfl, _, rfl, ?_⟩
      refine iteN (nt rfl) ?_
      refine ⟨_, rfl, l2, fun tq htq => ?_⟩
      have g1 := g0.trans (same_new (o := .tup [V.ty "tuple", V.ty "list"]) htq)
      refine ⟨_, tq, _, _, _, true, rfl, upd_same, .cons (.ty _) (.cons (.ty _) .nil), .base (.tup (g1 _ _ ha)), kit_tl_tup, true, rfl, ?_⟩
      refine iteF ?_
      refine ⟨_, rfl, a, _, rfl, .inr (SqT.of (g1 _ _ ha)), _, rfl, b, _, rfl, .inr (SqT.of (g1 _ _ hb)), rfl, _, rfl, ?_⟩
      rw [decI]
      refine ite2 (fun z => ?_) (fun z => ?_)
      · have el : ps.length = qs.length := by
          have := of_decide_eq_true z
          omega
        refine ⟨_, rfl, _, rfl, a, b, xs, ys, rfl, .inr ⟨SqT.of (g1 _ _ ha), SqT.of (g1 _ _ hb), fun D hD => ?_⟩⟩
        have lz : (ps.zip qs).length = min xs.length ys.length := by
          rw [List.length_zip, ex, ey]
        refine lc_it (walk_zipT (K := K) (a := a) (b := b) (xs := xs) (ys := ys) lz) (fun i H1 => H1 D = some (.lst (((ps.zip qs).take i).map fun z => V.bl (decide (z.1 = z.2)))) ∧ Same H H1) ⟨upd_same, g1.trans (same_new hD)⟩ (fun i H1 _ z => ⟨SqT.of (z.2 _ _ ha), SqT.of (z.2 _ _ hb)⟩) ?_ ?_
        · rintro i x H1 H2 hi ⟨h1, g⟩ ⟨t3, x1, y1, rfl, hn, rfl, e1, e2⟩
          obtain ⟨p, hp, rp⟩ := paired_at pa i _ e1
          obtain ⟨q1, hq1, rq⟩ := paired_at pb i _ e2
          have hz : (ps.zip qs)[i]? = some (p, q1) := by
            rw [List.getElem?_zip_eq_some]
            exact ⟨hp, hq1⟩
          have g3 := same_new (o := .tup [x1, y1]) hn
          refine ⟨t3, [x1, y1], rfl, SqT.of upd_same, rfl, _, _, rfl, _, _, rfl, rfl, rfl, ?_⟩
          refine ⟨_, rfl, _, rfl, x1, y1, rfl, p, q1, mono _ _ (g.trans g3) _ _ rp, mono _ _ (g.trans g3) _ _ rq, fun H4 g4 => ⟨_, g4 _ _ (g3 _ _ h1), ?_, ?_, same_mut ((g.trans g3).trans g4) (g1.free hD)⟩⟩
          · rw [List.length_map, List.length_take]
            have b1 : (4000 : Nat) < PySem.sizeLine := by decide
            omega
          · rw [upd_same, take_one hz, List.map_append]
            rfl
        · rintro H1 ⟨h1, g⟩
          rw [List.take_length] at h1
          refine ⟨D, (ps.zip qs).map (fun z => decide (z.1 = z.2)), rfl, SqL.of ?_, ?_⟩
          · rw [h1, List.map_map]
            rfl
          · rw [zip_all el]
            exact q H1 g
      · have el : ¬ ps = qs := fun e => z (decide_eq_true (by
          have := congrArg List.length e
          omega))
        have q1 := q _ g1
        rw [decide_eq_false el] at q1
        exact q1
    · obtain ⟨ha, hb⟩ := hab
      refine ⟨_, rfl, l2, fun tp htp => ?_⟩
      have g0 := same_new (o := .tup [V.ty "tuple", V.ty "list"]) htp
      refine ⟨_, tp, _, _, _, true, rfl, upd_same, .cons (.ty _) (.cons (.ty _) .nil), .base (.lst (g0 _ _ hb)), kit_tl_lst, true, rfl, ?_⟩
      refine iteT ?_
      refine ⟨_, rfl, _, _, _, _, false, rfl, .ty _, .base (.lst (g0 _ _ ha)), kit_ty (by decide +kernel), _, rfl, _, _, _, _, false, rfl, .ty _, .base (.lst (g0 _ _ hb)), kit_ty (by decide +kernel), rfl, _, rfl, ?_⟩
      refine iteN (nt rfl) ?_
      refine ⟨_, rfl, l2, fun tq htq => ?_⟩
      have g1 := g0.trans (same_new (o := .tup [V.ty "tuple", V.ty "list"]) htq)
      refine ⟨_, tq, _, _, _, true, rfl, upd_same, .cons (.ty _) (.cons (.ty _) .nil), .base (.lst (g1 _ _ ha)), kit_tl_lst, true, rfl, ?_⟩
      refine iteF ?_
      refine ⟨_, rfl, a, _, rfl, .inl (SqL.of (g1 _ _ ha)), _, rfl, b, _, rfl, .inl (SqL.of (g1 _ _ hb)), rfl, _, rfl, ?_⟩
      rw [decI]
      refine ite2 (fun z => ?_) (fun z => ?_)
      · have el : ps.length = qs.length := by
          have := of_decide_eq_true z
          omega
        refine ⟨_, rfl, _, rfl, a, b, xs, ys, rfl, .inl ⟨SqL.of (g1 _ _ ha), SqL.of (g1 _ _ hb), fun D hD => ?_⟩⟩
        have lz : (ps.zip qs).length = min xs.length ys.length := by
          rw [List.length_zip, ex, ey]
        refine lc_it (walk_zip (K := K) (a := a) (b := b) (xs := xs) (ys := ys) lz) (fun i H1 => H1 D = some (.lst (((ps.zip qs).take i).map fun z => V.bl (decide (z.1 = z.2)))) ∧ Same H H1) ⟨upd_same, g1.trans (same_new hD)⟩ (fun i H1 _ z => ⟨SqL.of (z.2 _ _ ha), SqL.of (z.2 _ _ hb)⟩) ?_ ?_
        · rintro i x H1 H2 hi ⟨h1, g⟩ ⟨t3, x1, y1, rfl, hn, rfl, e1, e2⟩
          obtain ⟨p, hp, rp⟩ := paired_at pa i _ e1
          obtain ⟨q1, hq1, rq⟩ := paired_at pb i _ e2
          have hz : (ps.zip qs)[i]? = some (p, q1) := by
            rw [List.getElem?_zip_eq_some]
            exact ⟨hp, hq1⟩
          have g3 := same_new (o := .tup [x1, y1]) hn
          refine ⟨t3, [x1, y1], rfl, SqT.of upd_same, rfl, _, _, rfl, _, _, rfl, rfl, rfl, ?_⟩
          refine ⟨_, rfl, _, rfl, x1, y1, rfl, p, q1, mono _ _ (g.trans g3) _ _ rp, mono _ _ (g.trans g3) _ _ rq, fun H4 g4 => ⟨_, g4 _ _ (g3 _ _ h1), ?_, ?_, same_mut ((g.trans g3).trans g4) (g1.free hD)⟩⟩
          · rw [List.length_map, List.length_take]
            have b1 : (4000 : Nat) < PySem.sizeLine := by decide
            omega
          · rw [upd_same, take_one hz, List.map_append]
            rfl
        · rintro H1 ⟨h1, g⟩
          rw [List.take_length] at h1
          refine ⟨D, (ps.zip qs).map (fun z => decide (z.1 = z.2)), rfl, SqL.of ?_, ?_⟩
          · rw [h1, List.map_map]
            rfl
          · rw [zip_all el]
            exact q H1 g
      · have el : ¬ ps = qs := fun e => z (decide_eq_true (by
          have := congrArg List.length e
          omega))
        have q1 := q _ g1
        rw [decide_eq_false el] at q1
        exact q1
theorem c_is_pr (T : Txt K mg) : Cal P w K mg base 2 "_law_is" (sp_isR PrAt) [] := by
  refine cal_mono (c_is_seq (k := 1) T true (fun _ _ _ _ _ h => h) (c_is_int T)) fun vs H Q E h => ?_
  obtain ⟨x, y, rfl, p, q, ⟨a, rfl, ha⟩, ⟨b, rfl, hb⟩, k⟩ := h
  refine ⟨a, b, rfl, _, _, [p.1, p.2], [q.1, q.2], iteP rfl ⟨ha, hb⟩, .cons rfl (.cons rfl .nil), .cons rfl (.cons rfl .nil), by show 2 ≤ 4000; decide, fun H' g => ?_⟩
  have e : decide ([p.1, p.2] = [q.1, q.2]) = decide (p = q) := by
    obtain ⟨p1, p2⟩ := p
    obtain ⟨q1, q2⟩ := q
    simp
  rw [e]
  exact k H' g
def sp__law_is (K : PySem.W.Frag) : Sp := fun vs H Q _ => ∃ (a b : Addr), vs = [.ref a, .ref b] ∧ ∃ ps qs, PrsAt H a ps ∧ PrsAt H b qs ∧ ps.length ≤ 4000 ∧ ∀ H', Same H H' → Q (.bl (decide (ps = qs))) H'
theorem c__law_is (T : Txt K mg) : Cal P w K mg base 3 "_law_is" (sp__law_is K) [] := by
  refine cal_mono (c_is_seq (k := 2) T false (fun _ _ g _ _ h => h.mono (same_tups g)) (c_is_pr T)) fun vs H Q E h => ?_
  obtain ⟨a, b, rfl, ps, qs, ⟨xs, ha, pa⟩, ⟨ys, hb, pb⟩, l4, k⟩ := h
  exact ⟨a, b, rfl, xs, ys, ps, qs, iteN Bool.false_ne_true ⟨ha, hb⟩, pa, pb, by rw [paired_len pa]; exact l4, k⟩
end
end K21
namespace K21
open PySem L2 Nm
open C8 (Cal Mak pe_c pe_mk pe_gc)
open RZ (ItzT pi_zipA)
theorem at_ok {xs : List V} {r : Int} (h0 : 0 ≤ r) (h1 : r < (xs.length : Int)) : ∃ x, atI xs r = some x ∧ x ∈ xs := by
  obtain ⟨k, rfl⟩ : ∃ k : Nat, r = (k : Int) := ⟨r.toNat, by omega⟩
  have e : xs[k]? = some (xs[k]'(by omega)) := List.getElem?_eq_getElem (by omega)
  exact ⟨_, atI_nat e, List.mem_of_getElem? e⟩
section
variable {P : Program} {w : World} {K : PySem.W.Frag} {mg : Str → Option Value} {base : Heap}
def sp__law_some (K : PySem.W.Frag) : Sp := fun vs H Q _ => ∃ (tp p : Addr), vs = [.ref tp, .ref p] ∧ ∃ l xs, TapeAt H tp l ∧ H p = some (.lst xs) ∧ p ≠ tp ∧ 1 ≤ xs.length ∧ xs.length ≤ 1000 ∧ ∀ (x : V) (H' : Hp), x ∈ xs → TapeAt H' tp l → Mov tp H H' → Q x H'
theorem c__law_some (T : Txt K mg) : Cal P w K mg base 2 "_law_some" (sp__law_some K) [] := by
  have C__law_pick := c__law_pick (P := P) (w := w) (base := base) T
  have sc := sc__law_some
  refine cal_of T.d__law_some sc (fun _ _ _ _ _ _ us hl => match us, hl with | [_, _], _ => rfl) (fun vs H Q E h => ?_) (fun f cdv A outer s H vs Q E hr h => ?_)
  · obtain ⟨tp, p, rfl, _⟩ := h
    rfl
  · obtain ⟨tp, p, rfl, h⟩ := h
    refine ⟨_, (pss_one (ps_ret (pe_ix ix_list (pv 1) (pe_c C__law_pick hr (by omega) rfl (pa_cons (pv 0) (pa_cons (pe_callB call_len_seq rfl T.m_len (by decide +kernel) (pa_cons (pv 1) pa_nil)) pa_nil))) (fun _ _ => rfl)))), ?_⟩
    obtain ⟨l, xs, t, hp, np, l1, l2', q⟩ := h
    refine ⟨_, rfl, _, rfl, _, rfl, p, _, rfl, .inl (SqL.of hp), tp, _, rfl, l, t, by omega, by omega, fun r H1 r0 r1 t1 mv => ?_⟩
    obtain ⟨x, hx, mx⟩ := at_ok r0 r1
    exact ⟨p, _, r, x, rfl, rfl, SqL.of (mv _ _ hp np), hx, q x H1 mx t1 mv⟩
end
end K21
namespace K21
open PySem L2 Nm
open C8 (Cal Mak pe_c pe_mk pe_gc)
open RZ (ItzT pi_zipA)
def wordOk (z : Str) : Prop := letB z 20 = true ∧ z.length ≤ 1000
theorem few_ok : ∀ x ∈ [V.str "a", V.str "b", V.str "c", V.str "a", V.str "b", V.str "ab", V.str "zz", V.str "c", V.str "aa", V.str "qwertyuiopasdfghjklz"], ∃ z, x = .str z ∧ wordOk z := by
  intro x hx
  simp only [List.mem_cons, List.not_mem_nil, or_false] at hx
  rcases hx with rfl | rfl | rfl | rfl | rfl | rfl | rfl | rfl | rfl | rfl <;> exact ⟨_, rfl, by decide +kernel, by decide +kernel⟩
section
variable {P : Program} {w : World} {K : PySem.W.Frag} {mg : Str → Option Value} {base : Heap}
def sp__law_word (K : PySem.W.Frag) : Sp := fun vs H Q _ => ∃ (tp : Addr), vs = [.ref tp] ∧ ∃ l, TapeAt H tp l ∧ ∀ z H', wordOk z → TapeAt H' tp l → Mov tp H H' → Q (.str z) H'
theorem c__law_word (T : Txt K mg) : Cal P w K mg base 2 "_law_word" (sp__law_word K) [] := by
  have C__law_pick := c__law_pick (P := P) (w := w) (base := base) T
  have sc := sc__law_word
  refine cal_of T.d__law_word sc (fun _ _ _ _ _ _ us hl => match us, hl with | [_], _ => rfl) (fun vs H Q E h => ?_) (fun f cdv A outer s H vs Q E hr h => ?_)
  · obtain ⟨tp, rfl, _⟩ := h
    rfl
  · obtain ⟨tp, rfl, h⟩ := h
    refine ⟨_, (pss_cons (ps_set (i := 1) sc.nd rfl (Or.inl rfl) (pe_lst (pa_cons pe_str (pa_cons pe_str (pa_cons pe_str (pa_cons pe_str (pa_cons pe_str (pa_cons pe_str (pa_cons pe_str (pa_cons pe_str (pa_cons pe_str (pa_cons pe_str pa_nil))))))))))))
  (pss_one (ps_ret (pe_ix ix_list (pv 1) (pe_c C__law_pick hr (by omega) rfl (pa_cons (pv 0) (pa_cons pe_int pa_nil))) (fun _ _ => rfl))))), ?_⟩
    obtain ⟨l, t, q⟩ := h
    refine ⟨(by show 10 ≤ PySem.sizeLine; decide), fun p hp => ?_⟩
    have np := t.new hp
    have g := same_new (o := .lst [V.str "a", V.str "b", V.str "c", V.str "a", V.str "b", V.str "ab", V.str "zz", V.str "c", V.str "aa", V.str "qwertyuiopasdfghjklz"]) hp
    refine ⟨_, rfl, _, rfl, tp, 10, rfl, l, t.same g, by decide, by decide, fun r H1 r0 r1 t1 mv => ?_⟩
    obtain ⟨x, hx, mx⟩ := at_ok (xs := [V.str "a", V.str "b", V.str "c", V.str "a", V.str "b", V.str "ab", V.str "zz", V.str "c", V.str "aa", V.str "qwertyuiopasdfghjklz"]) r0 r1
    obtain ⟨z, rfl, hz⟩ := few_ok x mx
    exact ⟨p, _, r, _, rfl, rfl, SqL.of (mv _ _ upd_same np.1), hx, q z H1 hz t1 ((mov_same g).trans mv)⟩
end
end K21
namespace K21
open PySem L2 Nm
open C8 (Cal Mak pe_c pe_mk pe_gc)
open RZ (ItzT pi_zipA)
section
variable {P : Program} {w : World} {K : PySem.W.Frag} {mg : Str → Option Value} {base : Heap}
def sp__law_line (K : PySem.W.Frag) : Sp := fun vs H Q _ => ∃ (tp : Addr) (many : Int), vs = [.ref tp, .int many] ∧ ∃ l, TapeAt H tp l ∧ 0 ≤ many ∧ many ≤ 100 ∧ ∀ (r : Addr) (ws : List Str) (H' : Hp), H' r = some (.tup (ws.map V.str)) → (∀ z ∈ ws, wordOk z) → (ws.length : Int) = many → TapeAt H' tp l → Mov tp H H' → Q (.ref r) H'
theorem c__law_line (T : Txt K mg) : Cal P w K mg base 3 "_law_line" (sp__law_line K) [] := by
  have C__law_word := c__law_word (P := P) (w := w) (base := base) T
  have sc := sc__law_line
  refine cal_of T.d__law_line sc (fun _ _ _ _ _ _ us hl => match us, hl with | [_, _], _ => rfl) (fun vs H Q E h => ?_) (fun f cdv A outer s H vs Q E hr h => ?_)
  · obtain ⟨tp, many, rfl, _⟩ := h
    rfl
  · obtain ⟨tp, many, rfl, h⟩ := h
    refine ⟨_, (pss_one (ps_ret (pe_callTy call_tuple_of rfl T.m_tuple (by decide +kernel) (pa_cons (pe_lc (own := [("k", 2)]) (g := gName 2) rfl sc.nd (pi_range1 rfl T.m_range (pa_cons (pv 1) pa_nil)) (blkOk_by (own := [("k", 2)]) (N := ["tape", "many", "k"]) (sc := defScope s__law_line) (by decide +kernel)) (fun _ _ _ _ _ => (pg_name (i := 2) sc.nd rfl (Or.inl rfl))) (fun _ _ _ _ _ => pts_nil) (fun _ _ _ _ _ => (pe_c C__law_word hr (by omega) rfl (pa_cons (pv 0) pa_nil)))) pa_nil)))), ?_⟩
    obtain ⟨l, t0, m0, m1, q⟩ := h
    refine ⟨_, rfl, many, rfl, by omega, by omega, fun D hD => ?_⟩
    have nD := t0.new hD
    refine lc_range (lo := 0) (n := many.toNat) (fun i H1 => ∃ ws : List Str, H1 D = some (.lst (ws.map V.str)) ∧ (∀ z ∈ ws, wordOk z) ∧ ws.length = i ∧ TapeAt H1 tp l ∧ Mov tp H H1) ⟨[], upd_same, fun z hz => absurd hz (List.not_mem_nil), rfl, t0.upd nD, mov_mut (Mov.refl tp H) hD⟩ ?_ ?_
    · rintro i H1 hi ⟨ws, h1, ok, lw, t1, mv⟩
      refine ⟨rfl, ?_⟩
      refine ⟨_, rfl, tp, rfl, l, t1, fun z H2 hz t2 mv2 => ?_⟩
      have h2 : H2 D = some (.lst (ws.map V.str)) := mv2 _ _ h1 nD.1
      refine ⟨_, h2, ?_, ws ++ [z], ?_, ?_, by rw [List.length_append, lw]; rfl, t2.upd nD, mov_mut (mv.trans mv2) hD⟩
      · rw [List.length_map]
        have b : (1000 : Nat) < PySem.sizeLine := by decide
        omega
      · rw [upd_same, List.map_append]
        rfl
      · intro y hy
        rcases List.mem_append.mp hy with c | c
        · exact ok y c
        · rw [List.mem_singleton.mp c]
          exact hz
    · rintro H1 ⟨ws, h1, ok, lw, t1, mv⟩
      refine ⟨D, _, rfl, .inl ⟨SqL.of h1, fun p hp => ?_⟩⟩
      have g := same_new (o := .tup (ws.map V.str)) hp
      exact q p ws _ upd_same ok (by omega) (t1.same g) (mv.trans (mov_same g))
end
end K21
namespace K21
open PySem L2 Nm
open C8 (Cal Mak pe_c pe_mk pe_gc)
open RZ (ItzT pi_zipA)
/-- a drawn board -/
def drawn (b : Bd) : Prop := okB b ∧ b.2.2.length ≤ 3
theorem word_row {ws : List Str} (h : ∀ z ∈ ws, wordOk z) (l : ws.length ≤ 20) : rowB ws 20 = true := by
  unfold rowB
  rw [decide_eq_true (show ((ws.length : Nat) : Int) ≤ 20 by omega), Bool.true_and, List.all_eq_true]
  exact fun z hz => (h z hz).1
theorem drawn_ok {n : Str} {s : Int} {ws : List Str} (hn : letB n 8 = true) (ln : n.length ≤ 1000) (h0 : 0 ≤ s) (h1 : s < 2) (h : ∀ z ∈ ws, wordOk z) (l : ws.length ≤ 20) : okB (n, s, ws) := by
  refine ⟨?_, ln, by show ws.length ≤ 1000; omega, fun z hz => (h z hz).2⟩
  show (letB n 8 && ((decide (0 ≤ s) && decide (s ≤ 1)) && rowB ws 20)) = true
  rw [hn, word_row h l, decide_eq_true h0, decide_eq_true (show s ≤ 1 by omega)]
  rfl
theorem names_ok : ∀ x ∈ [V.str "p", V.str "q", V.str "pq"], ∃ z, x = .str z ∧ letB z 8 = true ∧ z.length ≤ 1000 := by
  intro x hx
  simp only [List.mem_cons, List.not_mem_nil, or_false] at hx
  rcases hx with rfl | rfl | rfl <;> exact ⟨_, rfl, by decide +kernel, by decide +kernel⟩
/-- a row stands there -/
def RowAt (H : Hp) (r : Addr) (ws : List Str) : Prop := H r = some (.tup (ws.map V.str)) ∧ ∀ z ∈ ws, wordOk z
theorem RowAt.mov {tp l : Addr} {H H' : Hp} {r : Addr} {ws : List Str} (h : RowAt H r ws) (t : TapeAt H tp l) (m : Mov tp H H') : RowAt H' r ws := ⟨(t.keep m).tups _ _ h.1, h.2⟩
section
variable {P : Program} {w : World} {K : PySem.W.Frag} {mg : Str → Option Value} {base : Heap}
def sp__law_boards (K : PySem.W.Frag) : Sp := fun vs H Q _ => ∃ (tp : Addr) (most : Int) (bg : Bool), vs = [.ref tp, .int most, .bl bg] ∧ ∃ l, TapeAt H tp l ∧ 1 ≤ most ∧ most ≤ 12 ∧
  ∀ (r : Addr) (bs : List Bd) (H' : Hp), BoardsAt H' r bs → (∀ b ∈ bs, drawn b) → 1 ≤ bs.length → (bs.length : Int) ≤ most → TapeAt H' tp l → Mov tp H H' → Q (.ref r) H'
theorem c__law_boards (T : Txt K mg) : Cal P w K mg base 4 "_law_boards" (sp__law_boards K) [] := by
  have C__law_line := c__law_line (P := P) (w := w) (base := base) T
  have C__law_pick := c__law_pick (P := P) (w := w) (base := base) T
  have C__law_some := c__law_some (P := P) (w := w) (base := base) T
  have sc := sc__law_boards
  refine cal_of T.d__law_boards sc (fun _ _ _ _ _ _ us hl => match us, hl with | [_, _, _], _ => rfl) (fun vs H Q E h => ?_) (fun f cdv A outer s H vs Q E hr h => ?_)
  · obtain ⟨tp, most, bg, rfl, _⟩ := h
    rfl
  · obtain ⟨tp, most, bg, rfl, h⟩ := h
    refine ⟨_, (pss_cons (ps_set (i := 3) sc.nd rfl (Or.inl rfl) (pe_op op_add pe_int (pe_callB (call_max2 rfl) rfl T.m_max (by decide +kernel) (pa_cons (pe_c C__law_pick hr (by omega) rfl (pa_cons (pv 0) (pa_cons (pv 1) pa_nil))) (pa_cons (pe_c C__law_pick hr (by omega) rfl (pa_cons (pv 0) (pa_cons (pv 1) pa_nil))) pa_nil)))))
  (pss_cons (ps_set (i := 4) sc.nd rfl (Or.inl rfl) (pe_slice sl_list (pe_lst (pa_cons pe_str (pa_cons pe_str (pa_cons pe_str pa_nil)))) po_none (po_some (pe_op op_add pe_int (pe_c C__law_pick hr (by omega) rfl (pa_cons (pv 0) (pa_cons pe_int pa_nil)))))))
  (pss_cons (ps_set (i := 5) sc.nd rfl (Or.inl rfl) (pe_c C__law_line hr (by omega) rfl (pa_cons (pv 0) (pa_cons pe_int pa_nil))))
  (pss_cons (ps_set (i := 6) sc.nd rfl (Or.inl rfl) (pe_op op_catA (pe_slice sl_tupA (pv 5) po_none (po_some (pe_op op_add pe_int (pe_c C__law_pick hr (by omega) rfl (pa_cons (pv 0) (pa_cons pe_int pa_nil)))))) (pe_c C__law_line hr (by omega) rfl (pa_cons (pv 0) (pa_cons pe_int pa_nil)))))
  (pss_cons (ps_set (i := 7) sc.nd rfl (Or.inl rfl) (pe_lst pa_nil))
  (pss_cons (ps_for PassesOwn.never rfl (pi_range1 rfl T.m_range (pa_cons (pv 3) pa_nil)) (pg_name (i := 8) sc.nd rfl (Or.inl rfl)) (pss_cons (ps_set (i := 9) sc.nd rfl (Or.inl rfl) (pe_tup pa_nil))
  (C8.pss_cut (ps_if (PW.pt (pw_and (pt_val (pv 2)) (pw_and1 (pt_cmpR op_gt (pe_c C__law_pick hr (by omega) rfl (pa_cons (pv 0) (pa_cons pe_int pa_nil))) pe_int (nomark _))))) (pss_one (ps_set (i := 9) sc.nd rfl (Or.inl rfl) (pe_slice sl_tupA (pe_c C__law_some hr (by omega) rfl (pa_cons (pv 0) (pa_cons (pe_lst (pa_cons (pv 5) (pa_cons (pv 5) (pa_cons (pv 6) pa_nil)))) pa_nil))) po_none (po_some (pe_c C__law_pick hr (by omega) rfl (pa_cons (pv 0) (pa_cons pe_int pa_nil))))))) pss_nil)
  (pss_one (ps_expr (pe_bm PySem.F.plainAttrs_list PySem.F.slot_list_append PySem.F.type_list_append mt_append (pv 7) (pa_cons (pe_tup (pa_cons (pe_c C__law_some hr (by omega) rfl (pa_cons (pv 0) (pa_cons (pv 4) pa_nil))) (pa_cons (pe_c C__law_pick hr (by omega) rfl (pa_cons (pv 0) (pa_cons pe_int pa_nil))) (pa_cons (pv 9) pa_nil)))) pa_nil)))))))
  (pss_one (ps_ret (pe_callTy call_tuple_of rfl T.m_tuple (by decide +kernel) (pa_cons (pv 7) pa_nil)))))))))), ?_⟩
    obtain ⟨l, t0, m0, m1, q⟩ := h
    refine ⟨_, rfl, _, rfl, tp, most, rfl, l, t0, by omega, by omega, fun r1 H1 r10 r11 t1 mv1 => ?_⟩
    refine ⟨_, rfl, _, rfl, tp, most, rfl, l, t1, by omega, by omega, fun r2 H2 r20 r21 t2 mv2 => ⟨r1, r2, rfl, 1, _, rfl, rfl, ?_⟩⟩
    obtain ⟨mm, emm, mm1, mm2⟩ : ∃ mm : Nat, 1 + (if r2 > r1 then r2 else r1) = (mm : Int) ∧ 1 ≤ mm ∧ (mm : Int) ≤ most := by
      by_cases c : r2 > r1
      · rw [if_pos c]
        exact ⟨(1 + r2).toNat, by omega, by omega, by omega⟩
      · rw [if_neg c]
        exact ⟨(1 + r1).toNat, by omega, by omega, by omega⟩
    show gName 3 (V.int (1 + (if r2 > r1 then r2 else r1))) _ _ _
    rw [emm]
    -- names
    refine ⟨(by show 3 ≤ PySem.sizeLine; decide), fun n0 hn0 => ?_⟩
    have nn0 := t2.new hn0
    have g0 := same_new (o := .lst [V.str "p", V.str "q", V.str "pq"]) hn0
    refine ⟨_, rfl, tp, 3, rfl, l, t2.same g0, by decide, by decide, fun r3 H3 r30 r31 t3 mv3 => ⟨_, _, rfl, rfl, _, rfl, n0, _, rfl, SqL.of (mv3 _ _ upd_same nn0.1), fun n1 hn1 => ?_⟩⟩
    obtain ⟨k3, ek3, k31⟩ : ∃ k : Nat, 1 + r3 = (k : Int) ∧ 1 ≤ k := ⟨(1 + r3).toNat, by omega, by omega⟩
    rw [ek3, cutV_take]
    generalize hnl : [V.str "p", V.str "q", V.str "pq"].take k3 = nl at hn1 ⊢
    have nlok : ∀ x ∈ nl, ∃ z, x = .str z ∧ letB z 8 = true ∧ z.length ≤ 1000 := fun x hx => names_ok x (List.mem_of_mem_take (by rw [hnl]; exact hx))
    have nl1 : 1 ≤ nl.length := by
      rw [← hnl, List.length_take]
      show 1 ≤ min k3 3
      omega
    have nl3 : nl.length ≤ 3 := by
      rw [← hnl, List.length_take]
      show min k3 3 ≤ 3
      omega
    have nn1 := t3.new hn1
    have g1 := same_new (o := .lst nl) hn1
    have t4 := t3.same g1
    have m04 : Mov tp H (upd H3 n1 (.lst nl)) := (((mv1.trans mv2).trans (mov_same g0)).trans mv3).trans (mov_same g1)
    have h4 : upd H3 n1 (.lst nl) n1 = some (.lst nl) := upd_same
    generalize upd H3 n1 (.lst nl) = H4 at t4 m04 h4
    clear g1 g0
    -- line
    refine ⟨_, rfl, tp, 4, rfl, l, t4, by decide, by decide, fun lr lw H5 hl5 okl lenl t5 mv5 => ?_⟩
    have R5 : RowAt H5 lr lw := ⟨hl5, okl⟩
    have h5 := mv5 _ _ h4 nn1.1
    have m05 := m04.trans mv5
    -- other
    refine ⟨_, rfl, _, rfl, tp, 3, rfl, l, t5, by decide, by decide, fun r6 H6 r60 r61 t6 mv6 => ⟨_, _, rfl, rfl, _, rfl, ?_⟩⟩
    obtain ⟨k6, ek6⟩ : ∃ k : Nat, 1 + r6 = (k : Int) := ⟨(1 + r6).toNat, by omega⟩
    rw [ek6]
    have R6 := R5.mov t5 mv6
    have h6 := mv6 _ _ h5 nn1.1
    refine sl_take (k := k6) R6.1 fun pr7 H7 g7 h7 => ?_
    have t7 := t6.same g7
    refine ⟨_, rfl, tp, 2, rfl, l, t7, by decide, by decide, fun or8 ow8 H8 ho8 oko lno t8 mv8 => ?_⟩
    have R8 := (R6.mov t6 (mov_same g7)).mov t7 mv8
    have h78 := (t7.keep mv8).tups _ _ h7
    have h8 := mv8 _ _ (g7 _ _ h6) nn1.1
    rw [← List.map_take] at h78
    refine cat_tups h78 ho8 (by rw [List.length_map, List.length_map, List.length_take]; omega) fun orr H9 g9 h9 => ?_
    rw [← List.map_append] at h9
    have O9 : RowAt H9 orr (lw.take k6 ++ ow8) := ⟨h9, fun z hz => by
      rcases List.mem_append.mp hz with c | c
      · exact okl z (List.mem_of_mem_take c)
      · exact oko z c⟩
    have t9 := t8.same g9
    have R9 := R8.mov t8 (mov_same g9)
    have h9n := g9 _ _ h8
    have m09 := (((m05.trans mv6).trans (mov_same g7)).trans mv8).trans (mov_same g9)
    generalize lw.take k6 ++ ow8 = ow at O9
    clear h9 ho8 h78 h8 R8 h7 R6 R5 hl5 h5 h4
    -- found
    refine ⟨(by show 0 ≤ PySem.sizeLine; decide), fun D hD => ?_⟩
    have nD := t9.new hD
    have gD := same_new (o := .lst []) hD
    have nDn : n1 ≠ D := ne_of_none h9n hD
    refine ⟨_, rfl, (mm : Int), rfl, by omega, by omega, ?_⟩
    refine for_range (lo := 0) (n := ((mm : Nat) : Int).toNat) (fun i σ H' => ∃ zs bs v8 v9, σ = [some (.ref tp), some (.int most), some (.bl bg), some (.int (mm : Int)), some (.ref n1), some (.ref lr), some (.ref orr), some (.ref D), v8, v9] ∧ H' D = some (.lst zs) ∧ Paired (BoardAt H') zs bs ∧ (∀ b ∈ bs, drawn b) ∧ bs.length = i ∧ TapeAt H' tp l ∧ Mov tp H H' ∧ H' n1 = some (.lst nl) ∧ RowAt H' lr lw ∧ RowAt H' orr ow)
      ⟨[], [], _, _, rfl, upd_same, .nil, fun b hb => absurd hb (List.not_mem_nil), rfl, t9.same gD, m09.trans (mov_same gD), gD _ _ h9n, R9.mov t9 (mov_same gD), O9.mov t9 (mov_same gD)⟩ ?_ ?_
    · rintro i σ H' hi ⟨zs, bs, v8, v9, rfl, hz, pz, okz, lz, t', m', hn', R', O'⟩
      refine ⟨(by show 0 ≤ PySem.sizeLine; decide), fun e0 he0 => ?_⟩
      have ge := same_new (o := .tup []) he0
      refine ⟨fun σ H2 => ∃ r rw0, σ = [some (.ref tp), some (.int most), some (.bl bg), some (.int (mm : Int)), some (.ref n1), some (.ref lr), some (.ref orr), some (.ref D), some (.int (0 + (i : Int))), some (.ref r)] ∧ RowAt H2 r rw0 ∧ rw0.length ≤ 3 ∧ TapeAt H2 tp l ∧ Mov tp H' H2, ?_, ?_⟩
      · have E0' : RowAt (upd H' e0 (.tup [])) e0 [] := ⟨upd_same, fun z hz => absurd hz (List.not_mem_nil)⟩
        have te := t'.same ge
        refine ⟨_, rfl, _, rfl, ?_⟩
        refine ite2 (fun _ => ?_) (fun _ => ?_)
        · refine ⟨_, rfl, tp, 4, rfl, l, te, by decide, by decide, fun r1 H1 _ _ t1 mv1 => ⟨_, _, rfl, rfl, _, rfl, ?_⟩⟩
          refine ite2 (fun _ => ?_) (fun _ => ?_)
          · refine ⟨_, rfl, _, rfl, _, rfl, _, rfl, (by show 3 ≤ PySem.sizeLine; decide), fun ll hll => ?_⟩
            have nll := t1.new hll
            have gl := same_new (o := .lst [V.ref lr, V.ref lr, V.ref orr]) hll
            have ml := ((mov_same ge).trans mv1).trans (mov_same gl)
            have t2' := t1.same gl
            refine ⟨tp, ll, rfl, l, _, t2', upd_same, nll.1, by show 1 ≤ 3; decide, by show 3 ≤ 1000; decide, fun x H2 hx t2 mv2 => ?_⟩
            obtain ⟨xr, xw, rfl, X2⟩ : ∃ xr xw, x = .ref xr ∧ RowAt H2 xr xw := by
              simp only [List.mem_cons, List.not_mem_nil, or_false] at hx
              rcases hx with rfl | rfl | rfl
              · exact ⟨lr, lw, rfl, R'.mov t' (ml.trans mv2)⟩
              · exact ⟨lr, lw, rfl, R'.mov t' (ml.trans mv2)⟩
              · exact ⟨orr, ow, rfl, O'.mov t' (ml.trans mv2)⟩
            refine ⟨_, rfl, tp, 4, rfl, l, t2, by decide, by decide, fun r4 H4 r40 r41 t4 mv4 => ?_⟩
            obtain ⟨k4, rfl⟩ : ∃ k : Nat, r4 = (k : Int) := ⟨r4.toNat, by omega⟩
            have X4 := X2.mov t2 mv4
            refine ⟨_, rfl, sl_take (k := k4) X4.1 fun rr H5 g5 h5 => ?_⟩
            rw [← List.map_take] at h5
            exact ⟨rr, xw.take k4, rfl, ⟨h5, fun z hz => X4.2 z (List.mem_of_mem_take hz)⟩, by rw [List.length_take]; omega, t4.same g5, ((ml.trans mv2).trans mv4).trans (mov_same g5)⟩
          · exact ⟨e0, [], rfl, E0'.mov te mv1, Nat.zero_le _, t1, (mov_same ge).trans mv1⟩
        · exact iteF ⟨e0, [], rfl, E0', Nat.zero_le _, te, mov_same ge⟩
      · rintro σ H2 ⟨r, rw0, rfl, Rr, l3, t2, m2⟩
        have hz2 := m2 _ _ hz nD.1
        have hn2 := m2 _ _ hn' nn1.1
        refine ⟨_, rfl, .inl ⟨rfl, _, SqL.of hz2⟩, ?_⟩
        refine ⟨_, rfl, _, rfl, tp, n1, rfl, l, nl, t2, hn2, nn1.1, nl1, by omega, fun x H3 hx t3 mv3 => ?_⟩
        obtain ⟨z, rfl, z8, zl⟩ := nlok x hx
        refine ⟨_, rfl, tp, 2, rfl, l, t3, by decide, by decide, fun s H4 s0 s1 t4 mv4 => ?_⟩
        refine ⟨_, rfl, (by show 3 ≤ PySem.sizeLine; decide), fun t5 h5 => ?_⟩
        have g5 := same_new (o := .tup [V.str z, V.int s, V.ref r]) h5
        have m45 := (mv3.trans mv4).trans (mov_same g5)
        have m25 := m2.trans m45
        have hz5 := m45 _ _ hz2 nD.1
        have Rr5 := Rr.mov t2 m45
        have kd : ∀ e us, upd H4 t5 (.tup [V.str z, V.int s, V.ref r]) e = some (.tup us) → upd (upd H4 t5 (.tup [V.str z, V.int s, V.ref r])) D (.lst (zs ++ [.ref t5])) e = some (.tup us) := fun e us he => by
          rw [upd_ne (fun w => by rw [w, hz5] at he; cases he)]
          exact he
        have mm5 : Mov tp H (upd (upd H4 t5 (.tup [V.str z, V.int s, V.ref r])) D (.lst (zs ++ [.ref t5]))) := mov_mut (m'.trans m25) (by
          cases e : H D with
          | none => rfl
          | some o => rw [m09 _ _ e nD.1] at hD; cases hD)
        have t5' := (t4.same g5).upd (p := D) (o := .lst (zs ++ [.ref t5])) nD
        have lzz : zs.length = bs.length := paired_len pz
        refine ⟨D, zs, .ref t5, rfl, rfl, hz5, ?_, ?_⟩
        · have b1 : (1000 : Nat) < PySem.sizeLine := by decide
          omega
        · refine ⟨zs ++ [.ref t5], bs ++ [(z, s, rw0)], _, _, rfl, upd_same, paired_snoc (paired_mono (fun _ _ w => (w.mono (t'.keep m25).tups).mono kd) pz) ⟨t5, r, rfl, kd _ _ upd_same, kd _ _ Rr5.1⟩, ?_, by rw [List.length_append, lz]; rfl, t5', mm5, by rw [upd_ne nDn]; exact m45 _ _ hn2 nn1.1, ?_, ?_⟩
          · intro b hb
            rcases List.mem_append.mp hb with c | c
            · exact okz b c
            · rw [List.mem_singleton.mp c]
              exact ⟨drawn_ok z8 zl s0 s1 Rr.2 (by omega), l3⟩
          · exact ⟨kd _ _ (R'.mov t' m25).1, R'.2⟩
          · exact ⟨kd _ _ (O'.mov t' m25).1, O'.2⟩
    · rintro σ H' ⟨zs, bs, v8, v9, rfl, hz, pz, okz, lz, t', m', _⟩
      refine ⟨_, rfl, D, zs, rfl, .inl ⟨SqL.of hz, fun p hp => ?_⟩⟩
      have g := same_new (o := .tup zs) hp
      exact q p bs _ ⟨zs, upd_same, paired_mono (fun _ _ w => w.mono (same_tups g)) pz⟩ okz (by omega) (by omega) (t'.same g) (m'.trans (mov_same g))
end
end K21
namespace K21
open PySem L2 Nm
open C8 (Cal Mak pe_c pe_mk pe_gc)
open RZ (ItzT pi_zipA)
theorem longer_ok {b : Bd} {aw : List Str} (h : drawn b) (ok : ∀ z ∈ aw, wordOk z) (l : aw.length ≤ 16) : okB (b.1, b.2.1, aw ++ b.2.2) := by
  have h1 := h.1.1
  have h2 := h.1.2
  have h3 := h.2
  unfold boardB at h1
  rw [Bool.and_eq_true, Bool.and_eq_true] at h1
  have r := h.1.row
  unfold rowB at r
  rw [Bool.and_eq_true] at r
  refine ⟨?_, h2.1, by show (aw ++ b.2.2).length ≤ 1000; rw [List.length_append]; omega, fun z hz => ?_⟩
  · show (letB b.1 8 && (within (.int b.2.1) 0 1 && rowB (aw ++ b.2.2) 20)) = true
    rw [h1.1, h1.2.1]
    unfold rowB
    rw [decide_eq_true (show (((aw ++ b.2.2).length : Nat) : Int) ≤ 20 by rw [List.length_append]; omega), List.all_append, r.2]
    rw [List.all_eq_true.mpr fun z hz => (ok z hz).1]
    rfl
  · rcases List.mem_append.mp hz with c | c
    · exact (ok z c).2
    · exact h2.2.2 z c
section
variable {P : Program} {w : World} {K : PySem.W.Frag} {mg : Str → Option Value} {base : Heap}
def sp__law_lengthened (K : PySem.W.Frag) : Sp := fun vs H Q _ => ∃ (tp a : Addr), vs = [.ref tp, .ref a] ∧ ∃ l bs, TapeAt H tp l ∧ BoardsAt H a bs ∧ (∀ b ∈ bs, drawn b) ∧ bs.length ≤ 12 ∧
  ∀ (r : Addr) (cs : List Bd) (H' : Hp), BoardsAt H' r cs → (∀ b ∈ cs, okB b) → cs.length = bs.length → TapeAt H' tp l → Mov tp H H' → Q (.ref r) H'
theorem c__law_lengthened (T : Txt K mg) : Cal P w K mg base 4 "_law_lengthened" (sp__law_lengthened K) [] := by
  have C__law_line := c__law_line (P := P) (w := w) (base := base) T
  have C__law_pick := c__law_pick (P := P) (w := w) (base := base) T
  have sc := sc__law_lengthened
  refine cal_of T.d__law_lengthened sc (fun _ _ _ _ _ _ us hl => match us, hl with | [_, _], _ => rfl) (fun vs H Q E h => ?_) (fun f cdv A outer s H vs Q E hr h => ?_)
  · obtain ⟨tp, a, rfl, _⟩ := h
    rfl
  · obtain ⟨tp, a, rfl, h⟩ := h
    refine ⟨_, (pss_cons (ps_set (i := 2) sc.nd rfl (Or.inr rfl) (pe_c C__law_line hr (by omega) rfl (pa_cons (pv 0) (pa_cons (pe_op op_add pe_int (pe_c C__law_pick hr (by omega) rfl (pa_cons (pv 0) (pa_cons pe_int pa_nil)))) pa_nil))))
  (pss_one (ps_ret (pe_callTy call_tuple_of rfl T.m_tuple (by decide +kernel) (pa_cons (pe_lc (own := [("name", 3), ("side", 4), ("row", 5)]) (g := gTup K 3 (gCons (gName 3) (gCons (gName 4) (gCons (gName 5) gNil)))) rfl sc.nd (pi_tup (pv 1)) (blkOk_by (own := [("name", 3), ("side", 4), ("row", 5)]) (N := ["tape", "boards", "ahead", "name", "side", "row"]) (sc := defScope s__law_lengthened) (by decide +kernel)) (fun _ _ _ _ _ => (pg_tup rfl (pgs_cons (pg_name (i := 3) sc.nd rfl (Or.inl rfl)) (pgs_cons (pg_name (i := 4) sc.nd rfl (Or.inl rfl)) (pgs_cons (pg_name (i := 5) sc.nd rfl (Or.inl rfl)) pgs_nil))))) (fun _ _ _ _ _ => pts_nil) (fun _ _ _ _ _ => (pe_tup (pa_cons (pv 3) (pa_cons (pv 4) (pa_cons (pe_op (r := rCatA K) op_catA (pv 2) (pv 5)) pa_nil)))))) pa_nil))))), ?_⟩
    obtain ⟨l, bs, t0, hb, ok, l12, q⟩ := h
    refine ⟨_, rfl, _, rfl, tp, 4, rfl, l, t0, by decide, by decide, fun r1 H1 r10 r11 t1 mv1 => ⟨_, _, rfl, rfl, ?_⟩⟩
    refine ⟨tp, 13 + r1, rfl, l, t1, by omega, by omega, fun ar aw H2 h2 oka la t2 mv2 => ?_⟩
    have m02 := mv1.trans mv2
    obtain ⟨xs, ha, pr⟩ := hb.mono (t0.keep m02).tups
    have el : xs.length = bs.length := paired_len pr
    refine ⟨_, rfl, a, rfl, ⟨_, SqT.of ha⟩, fun D hD => ?_⟩
    have nD := t2.new hD
    refine lc_tup (K := K) (a := a) (xs := xs) (fun i H3 => ∃ zs, H3 D = some (.lst zs) ∧ Paired (BoardAt H3) zs ((bs.take i).map fun b => (b.1, b.2.1, aw ++ b.2.2)) ∧ zs.length ≤ i ∧ Same H2 H3) ⟨[], upd_same, .nil, Nat.zero_le _, same_new hD⟩ (fun i H3 _ ⟨_, _, _, _, g⟩ => SqT.of (g _ _ ha)) ?_ ?_
    · rintro i x H3 hx ⟨zs, h3, pz, lz, g⟩
      obtain ⟨b, hb, c, r, rfl, hc, hr1⟩ := paired_at pr i x hx
      have hi : i < xs.length := (List.getElem?_eq_some_iff.mp hx).1
      have okb := ok b (List.mem_of_getElem? hb)
      refine ⟨c, _, rfl, SqT.of (g _ _ hc), rfl, _, _, rfl, _, _, rfl, _, _, rfl, rfl, rfl, ?_⟩
      refine ⟨_, rfl, _, rfl, _, rfl, _, rfl, cat_tups (g _ _ h2) (g _ _ hr1) (by have := okb.2; rw [List.length_map, List.length_map]; omega) fun rr H4 g4 h4 => ?_⟩
      rw [← List.map_append] at h4
      refine ⟨(by show 3 ≤ PySem.sizeLine; decide), fun t ht => ?_⟩
      have g5 := same_new (o := .tup [V.str b.1, V.int b.2.1, V.ref rr]) ht
      have g35 := g4.trans g5
      refine ⟨zs, g35 _ _ h3, ?_, zs ++ [.ref t], upd_same, ?_, by rw [List.length_append]; exact Nat.succ_le_succ lz, same_mut (g.trans g35) hD⟩
      · have b1 : (1000 : Nat) < PySem.sizeLine := by decide
        omega
      · rw [take_one hb, List.map_append]
        have kd : ∀ e us, upd H4 t (.tup [V.str b.1, V.int b.2.1, V.ref rr]) e = some (.tup us) → upd (upd H4 t (.tup [V.str b.1, V.int b.2.1, V.ref rr])) D (.lst (zs ++ [.ref t])) e = some (.tup us) := fun e us he => by
          rw [upd_ne (fun z => by rw [z, g35 _ _ h3] at he; cases he)]
          exact he
        refine paired_snoc (paired_mono (fun _ _ z => (z.mono (same_tups g35)).mono kd) pz) ⟨t, rr, rfl, kd _ _ upd_same, kd _ _ (g5 _ _ h4)⟩
    · rintro H3 ⟨zs, h3, pz, lz, g⟩
      rw [el, List.take_length] at pz
      refine ⟨D, zs, rfl, .inl ⟨SqL.of h3, fun p hp1 => ?_⟩⟩
      have g2 := same_new (o := .tup zs) hp1
      refine q p _ _ ⟨zs, upd_same, paired_mono (fun _ _ z => z.mono (same_tups g2)) pz⟩ (fun b hb => ?_) (by rw [List.length_map]) (t2.same (g.trans g2)) (m02.trans (mov_same (g.trans g2)))
      obtain ⟨b', hb', rfl⟩ := List.mem_map.mp hb
      exact longer_ok (ok b' hb') oka (by omega)
end
end K21
namespace K21
open PySem L2 Nm
open C8 (Cal Mak pe_c pe_mk pe_gc)
open RZ (ItzT pi_zipA)
theorem pair_long {b c : Bd} (n : b.1 = c.1) (s : ¬ b.2.1 = c.2.1) (h : rowExt c.2.2 b.2.2 = true) : arePair b c = !decide (b.2.1 = (c.2.2.length : Int) % 2) := by
  unfold arePair extOk
  rw [decide_eq_true n, decide_eq_false s, Bool.true_and, Bool.not_false, Bool.true_and, decide_eq_false (fun e => ext_ne h e.symm), Bool.false_or, h, ext_one h, Bool.false_and, Bool.false_or, Bool.true_and]
  congr 1
  exact decide_eq_decide.mpr eq_comm
theorem pair_none {b c : Bd} (r : ¬ b.2.2 = c.2.2) (h1 : rowExt b.2.2 c.2.2 = false) (h2 : rowExt c.2.2 b.2.2 = false) : arePair b c = false := by
  unfold arePair extOk
  rw [h1, h2, decide_eq_false r]
  simp
section
variable {P : Program} {w : World} {K : PySem.W.Frag} {mg : Str → Option Value} {base : Heap}
def sp__law_are_pair (K : PySem.W.Frag) : Sp := sp_are_pair K
theorem c__law_are_pair (T : Txt K mg) : Cal P w K mg base 1 "_law_are_pair" (sp__law_are_pair K) [] := by
  have sc := sc__law_are_pair
  refine cal_of T.d__law_are_pair sc (fun _ _ _ _ _ _ us hl => match us, hl with | [_, _], _ => rfl) (fun vs H Q E h => ?_) (fun f cdv A outer s H vs Q E hr h => ?_)
  · obtain ⟨x, y, rfl, _⟩ := h
    rfl
  · obtain ⟨x, y, rfl, h⟩ := h
    obtain ⟨b, c, hx, hy, ob, oc, q⟩ := h
    have hx' := hx
    have hy' := hy
    obtain ⟨a, r, rfl, ha, hr1⟩ := hx
    obtain ⟨a2, r2, rfl, ha2, hr2⟩ := hy
    have q0 := q H (Same.refl H)
    refine ⟨_, (pss_cons (ps_if (PW.pt (pw_or (pt_cmpR op_ne (pe_ix ix_tup (pv 0) pe_int (fun _ _ => rfl)) (pe_ix ix_tup (pv 1) pe_int (fun _ _ => rfl)) (nomark _)) (pw_or1 (pt_cmpR op_eq (pe_ix ix_tup (pv 0) pe_int (fun _ _ => rfl)) (pe_ix ix_tup (pv 1) pe_int (fun _ _ => rfl)) (nomark _))))) (pss_one (ps_ret pe_bl)) pss_nil)
  (pss_cons (ps_if (pt_cmpR (op_eqD hr.units) (pe_ix ix_tup (pv 0) pe_int (fun _ _ => rfl)) (pe_ix ix_tup (pv 1) pe_int (fun _ _ => rfl)) (nomark _)) (pss_one (ps_ret pe_bl)) pss_nil)
  (pss_cons (ps_for PassesOwn.never rfl (pi_list (pe_lst (pa_cons (pe_tup (pa_cons (pv 0) (pa_cons (pv 1) pa_nil))) (pa_cons (pe_tup (pa_cons (pv 1) (pa_cons (pv 0) pa_nil))) pa_nil)))) (pg_tup rfl (pgs_cons (pg_name (i := 2) sc.nd rfl (Or.inl rfl)) (pgs_cons (pg_name (i := 3) sc.nd rfl (Or.inl rfl)) pgs_nil))) (pss_one (ps_if (PW.pt (pw_and (pt_cmpR (op_eqD hr.units) (pe_slice sl_tupA (pe_ix ix_tup (pv 2) pe_int (fun _ _ => rfl)) po_none (po_some (pe_un un_neg pe_int))) (pe_ix ix_tup (pv 3) pe_int (fun _ _ => rfl)) (nomark _)) (pw_and1 (pt_cmpR op_eq (pe_callB call_len_seq rfl T.m_len (by decide +kernel) (pa_cons (pe_ix ix_tup (pv 2) pe_int (fun _ _ => rfl)) pa_nil)) (pe_op op_add (pe_callB call_len_seq rfl T.m_len (by decide +kernel) (pa_cons (pe_ix ix_tup (pv 3) pe_int (fun _ _ => rfl)) pa_nil)) pe_int) (nomark _))))) (pss_one (ps_ret (pe_cmpR op_ne (pe_ix ix_tup (pv 2) pe_int (fun _ _ => rfl)) (pe_op op_mod (pe_callB call_len_seq rfl T.m_len (by decide +kernel) (pa_cons (pe_ix ix_tup (pv 3) pe_int (fun _ _ => rfl)) pa_nil)) pe_int) (nomark _)))) pss_nil)))
  (pss_one (ps_ret pe_bl))))), ?_⟩
    refine ⟨_, rfl, a, _, 0, .str b.1, rfl, rfl, SqT.of ha, rfl, _, rfl, a2, _, 0, .str c.1, rfl, rfl, SqT.of ha2, rfl, rfl, _, rfl, ?_⟩
    rw [decS]
    refine ite2 (fun z => iteT ?_) (fun z => ?_)
    · have n : ¬ b.1 = c.1 := by
        intro e
        rw [decide_eq_true e] at z
        cases z
      have e : arePair b c = false := by
        unfold arePair
        rw [decide_eq_false n, Bool.false_and]
      rw [e] at q0
      exact q0
    have n : b.1 = c.1 := by
      by_cases e : b.1 = c.1
      · exact e
      · rw [decide_eq_false e] at z
        exact absurd rfl z
    refine ⟨_, rfl, a, _, 1, .int b.2.1, rfl, rfl, SqT.of ha, rfl, _, rfl, a2, _, 1, .int c.2.1, rfl, rfl, SqT.of ha2, rfl, rfl, _, rfl, ?_⟩
    rw [decI]
    refine ite2 (fun z => ?_) (fun z => ?_)
    · have e : arePair b c = false := by
        unfold arePair
        rw [z, Bool.not_true, Bool.false_and, Bool.and_false]
      rw [e] at q0
      exact q0
    have sd : ¬ b.2.1 = c.2.1 := of_decide_eq_false (Bool.eq_false_iff.mpr z)
    refine ⟨_, rfl, a, _, 2, .ref r, rfl, rfl, SqT.of ha, rfl, _, rfl, a2, _, 2, .ref r2, rfl, rfl, SqT.of ha2, rfl, rowD b.2.2, rowD c.2.2, dp_row hr1, dp_row hr2, shaped_row ob.lay, shaped_row oc.lay, _, rfl, ?_⟩
    rw [eqv_row]
    refine ite2 (fun z => ?_) (fun z => ?_)
    · have e : arePair b c = true := by
        unfold arePair
        rw [decide_eq_true n, decide_eq_false sd, z]
        rfl
      rw [e] at q0
      exact q0
    have rn : ¬ b.2.2 = c.2.2 := of_decide_eq_false (Bool.eq_false_iff.mpr z)
    refine ⟨_, rfl, _, rfl, l2, fun t1 ht1 => ⟨_, rfl, _, rfl, l2, fun t2 ht2 => ⟨l2, fun ls hls => ?_⟩⟩⟩
    have g1 := same_new (o := .tup [V.ref a, V.ref a2]) ht1
    have g2 := same_new (o := .tup [V.ref a2, V.ref a]) ht2
    have g3 := same_new (o := .lst [V.ref t1, V.ref t2]) hls
    have h1 := (g2.trans g3) _ _ (show upd H t1 (.tup [V.ref a, V.ref a2]) t1 = some (.tup [V.ref a, V.ref a2]) from upd_same)
    have h2 := g3 _ _ (show upd (upd H t1 (.tup [V.ref a, V.ref a2])) t2 (.tup [V.ref a2, V.ref a]) t2 = some (.tup [V.ref a2, V.ref a]) from upd_same)
    have h3 : upd (upd (upd H t1 (.tup [V.ref a, V.ref a2])) t2 (.tup [V.ref a2, V.ref a])) ls (.lst [V.ref t1, V.ref t2]) ls = some (.lst [V.ref t1, V.ref t2]) := upd_same
    have g0 := (g1.trans g2).trans g3
    generalize upd (upd (upd H t1 (.tup [V.ref a, V.ref a2])) t2 (.tup [V.ref a2, V.ref a])) ls (.lst [V.ref t1, V.ref t2]) = H0 at h1 h2 h3 g0
    refine ⟨ls, rfl, ⟨_, SqL.of h3⟩, ?_⟩
    refine for_list (K := K) (a := ls) (xs := [V.ref t1, V.ref t2]) (fun i σ H1 => ∃ v2 v3, σ = [some (.ref a), some (.ref a2), v2, v3] ∧ Same H0 H1 ∧ (1 ≤ i → rowExt c.2.2 b.2.2 = false) ∧ (2 ≤ i → rowExt b.2.2 c.2.2 = false)) ⟨_, _, rfl, Same.refl H0, fun z => absurd z (by decide), fun z => absurd z (by decide)⟩ (fun i σ H1 _ ⟨_, _, _, g, _⟩ => SqL.of (g _ _ h3)) ?_ ?_
    · rintro i x σ H1 hx ⟨v2, v3, rfl, g, i1, i2⟩
      obtain ⟨t, la, sa, lb, sb, lr, sr, rfl, ht, hla, hsa, hlr, hsr, ol, os, yes, no⟩ : ∃ (t la sa : Addr) (lb sb : Bd) (lr sr : Addr), x = .ref t ∧ H1 t = some (.tup [.ref la, .ref sa]) ∧ H1 la = some (.tup [.str lb.1, .int lb.2.1, .ref lr]) ∧ H1 sa = some (.tup [.str sb.1, .int sb.2.1, .ref sr]) ∧
          H1 lr = some (.tup (lb.2.2.map V.str)) ∧ H1 sr = some (.tup (sb.2.2.map V.str)) ∧ okB lb ∧ okB sb ∧ (rowExt sb.2.2 lb.2.2 = true → arePair b c = !decide (lb.2.1 = (sb.2.2.length : Int) % 2)) ∧
          (rowExt sb.2.2 lb.2.2 = false → (1 ≤ i + 1 → rowExt c.2.2 b.2.2 = false) ∧ (2 ≤ i + 1 → rowExt b.2.2 c.2.2 = false)) := by
        match i, hx with
        | 0, hx =>
          obtain rfl : V.ref t1 = x := Option.some.inj hx
          exact ⟨t1, a, a2, b, c, r, r2, rfl, g _ _ h1, g _ _ (g0 _ _ ha), g _ _ (g0 _ _ ha2), g _ _ (g0 _ _ hr1), g _ _ (g0 _ _ hr2), ob, oc, pair_long n sd, fun z => ⟨fun _ => z, fun w => absurd w (by decide)⟩⟩
        | 1, hx =>
          obtain rfl : V.ref t2 = x := Option.some.inj hx
          exact ⟨t2, a2, a, c, b, r2, r, rfl, g _ _ h2, g _ _ (g0 _ _ ha2), g _ _ (g0 _ _ ha), g _ _ (g0 _ _ hr2), g _ _ (g0 _ _ hr1), oc, ob, fun z => (pair_swap b c).trans (pair_long n.symm (fun e => sd e.symm) z), fun z => ⟨fun _ => i1 (Nat.le_refl 1), fun _ => z⟩⟩
        | i + 2, hx => simp at hx
      refine ⟨t, _, rfl, SqT.of ht, rfl, _, _, rfl, _, _, rfl, rfl, ?_⟩
      refine ⟨_, rfl, la, _, 2, .ref lr, rfl, rfl, SqT.of hla, rfl, 1, rfl, _, rfl, sl_last hlr fun d H2 g4 hd => ?_⟩
      rw [← List.map_dropLast] at hd
      refine ⟨_, rfl, sa, _, 2, .ref sr, rfl, rfl, SqT.of (g4 _ _ hsa), rfl, rowD lb.2.2.dropLast, rowD sb.2.2, dp_row hd, dp_row (g4 _ _ hsr), shaped_row (fun z hz => ol.lay z ((List.dropLast_sublist lb.2.2).subset hz)), shaped_row os.lay, _, rfl, ?_⟩
      rw [eqv_row]
      have nxt : rowExt sb.2.2 lb.2.2 = false → ∃ v2 v3, [some (V.ref a), some (V.ref a2), some (V.ref la), some (V.ref sa)] = [some (V.ref a), some (V.ref a2), v2, v3] ∧ Same H0 H2 ∧ (1 ≤ i + 1 → rowExt c.2.2 b.2.2 = false) ∧ (2 ≤ i + 1 → rowExt b.2.2 c.2.2 = false) := fun z => ⟨_, _, rfl, g.trans g4, (no z).1, (no z).2⟩
      refine ite2 (fun z1 => ?_) (fun z1 => ?_)
      · refine ⟨_, rfl, la, _, 2, .ref lr, rfl, rfl, SqT.of (g4 _ _ hla), rfl, lr, _, rfl, .inr (SqT.of (g4 _ _ hlr)), _, rfl, sa, _, 2, .ref sr, rfl, rfl, SqT.of (g4 _ _ hsa), rfl, sr, _, rfl, .inr (SqT.of (g4 _ _ hsr)), _, _, rfl, rfl, rfl, _, rfl, ?_⟩
        rw [decI, List.length_map, List.length_map]
        refine ite2 (fun z2 => ?_) (fun z2 => ?_)
        · have ex : rowExt sb.2.2 lb.2.2 = true := by
            unfold rowExt
            rw [z1, Bool.true_and]
            have := of_decide_eq_true z2
            exact decide_eq_true (by omega)
          rw [yes ex] at q
          refine ⟨_, rfl, la, _, 1, .int lb.2.1, rfl, rfl, SqT.of (g4 _ _ hla), rfl, _, rfl, sa, _, 2, .ref sr, rfl, rfl, SqT.of (g4 _ _ hsa), rfl, sr, _, rfl, .inr (SqT.of (g4 _ _ hsr)), _, _, rfl, rfl, (by show (0 : Int) < 2; decide), rfl, ?_⟩
          show Q (V.bl (!decide (V.int lb.2.1 = V.int (((sb.2.2.map V.str).length : Nat) % 2)))) H2
          rw [decI, List.length_map]
          exact q H2 ((g0.trans g).trans g4)
        · refine nxt ?_
          unfold rowExt
          have := of_decide_eq_false (Bool.eq_false_iff.mpr z2)
          rw [decide_eq_false (show ¬ (lb.2.2.length = sb.2.2.length + 1) by omega), Bool.and_false]
      · refine iteF (nxt ?_)
        unfold rowExt
        rw [Bool.eq_false_iff.mpr z1, Bool.false_and]
    · rintro σ H1 ⟨v2, v3, rfl, g, i1, i2⟩
      have e := pair_none rn (i2 (by show 2 ≤ 2; decide)) (i1 (by show 1 ≤ 2; decide))
      rw [e] at q
      exact q H1 (g0.trans g)
end
end K21
namespace K21
open PySem L2 Nm
open C8 (Cal Mak pe_c pe_mk pe_gc)
open RZ (ItzT pi_zipA)
section
variable {P : Program} {w : World} {K : PySem.W.Frag} {mg : Str → Option Value} {base : Heap}
def sp__law_pairs (K : PySem.W.Frag) : Sp := fun vs H Q _ => ∃ (a : Addr), vs = [.ref a] ∧ ∃ bs, BoardsAt H a bs ∧ (∀ b ∈ bs, okB b) ∧ bs.length ≤ 60 ∧ ∀ (p : Addr) (H' : Hp), H p = none → PrsAt H' p (pairsOf (onB arePair bs) bs.length) → Same H H' → Q (.ref p) H'
theorem c__law_pairs (T : Txt K mg) : Cal P w K mg base 2 "_law_pairs" (sp__law_pairs K) [] := by
  have C__law_are_pair := c__law_are_pair (P := P) (w := w) (base := base) T
  have sc := sc__law_pairs
  refine cal_of T.d__law_pairs sc (fun _ _ _ _ _ _ us hl => match us, hl with | [_], _ => rfl) (fun vs H Q E h => ?_) (fun f cdv A outer s H vs Q E hr h => ?_)
  · obtain ⟨a, rfl, _⟩ := h
    rfl
  · obtain ⟨a, rfl, h⟩ := h
    obtain ⟨bs, ⟨xs, ha, pr⟩, ok, l60, q⟩ := h
    have el : xs.length = bs.length := paired_len pr
    refine ⟨_, (pss_cons (ps_set (i := 1) sc.nd rfl (Or.inl rfl) (pe_lst pa_nil))
  (pss_cons (ps_for PassesOwn.never rfl (pi_range1 rfl T.m_range (pa_cons (pe_callB call_len_seq rfl T.m_len (by decide +kernel) (pa_cons (pv 0) pa_nil)) pa_nil)) (pg_name (i := 2) sc.nd rfl (Or.inl rfl)) (pss_one (ps_for PassesOwn.never rfl (pi_range2 rfl T.m_range (pa_cons (pe_op op_add (pv 2) pe_int) (pa_cons (pe_callB call_len_seq rfl T.m_len (by decide +kernel) (pa_cons (pv 0) pa_nil)) pa_nil))) (pg_name (i := 3) sc.nd rfl (Or.inl rfl)) (pss_one (ps_if (pt_val (pe_c C__law_are_pair hr (by omega) rfl (pa_cons (pe_ix ix_tup (pv 0) (pv 2) (fun _ _ => rfl)) (pa_cons (pe_ix ix_tup (pv 0) (pv 3) (fun _ _ => rfl)) pa_nil)))) (pss_one (ps_expr (pe_bm PySem.F.plainAttrs_list PySem.F.slot_list_append PySem.F.type_list_append mt_append (pv 1) (pa_cons (pe_tup (pa_cons (pv 2) (pa_cons (pv 3) pa_nil))) pa_nil)))) pss_nil)))))
  (pss_one (ps_ret (pv 1))))), ?_⟩
    refine ⟨(by show 0 ≤ PySem.sizeLine; decide), fun D hD => ?_⟩
    have g0 := same_new (o := .lst []) hD
    refine ⟨_, rfl, a, _, rfl, .inr (SqT.of (g0 _ _ ha)), _, rfl, by omega, by omega, ?_⟩
    refine for_range (lo := 0) (n := ((xs.length : Nat) : Int).toNat) (fun i σ H1 => ∃ v2 v3, σ = [some (.ref a), some (.ref D), v2, v3] ∧ PrsAt H1 D (pairsUp (onB arePair bs) bs.length i) ∧ (pairsUp (onB arePair bs) bs.length i).length ≤ i * 60 ∧ Same H H1)
      ⟨_, _, rfl, ⟨[], upd_same, .nil⟩, Nat.zero_le _, g0⟩ ?_ ?_
    · rintro i σ H1 hi ⟨v2, v3, rfl, ⟨ws, hw, pw⟩, lw, g⟩
      have hi' : i < bs.length := by omega
      obtain ⟨x, hx⟩ : ∃ x, xs[i]? = some x := ⟨xs[i]'(by omega), List.getElem?_eq_getElem (by omega)⟩
      obtain ⟨b, hb, hxb⟩ := paired_at pr i x hx
      refine ⟨_, rfl, _, _, rfl, rfl, _, rfl, a, _, rfl, .inr (SqT.of (g _ _ ha)), _, _, rfl, ⟨by omega, by omega, by omega, by omega⟩, ?_⟩
      refine for_range (lo := 0 + (i : Int) + 1) (n := ((xs.length : Int) - (0 + (i : Int) + 1)).toNat) (fun k σ H2 => ∃ v3, σ = [some (.ref a), some (.ref D), some (.int (0 + (i : Int))), v3] ∧ PrsAt H2 D (pairsUp (onB arePair bs) bs.length i ++ rowUp (onB arePair bs) i k) ∧ (rowUp (onB arePair bs) i k).length ≤ k ∧ Same H H2)
        ⟨_, rfl, ⟨ws, hw, by rw [show rowUp (onB arePair bs) i 0 = [] from rfl, List.append_nil]; exact pw⟩, Nat.zero_le _, g⟩ ?_ ?_
      · rintro k σ H2 hk ⟨v3, rfl, ⟨zs, hz, pz⟩, lz, g2⟩
        have hk' : i + 1 + k < bs.length := by omega
        obtain ⟨y, hy⟩ : ∃ y, xs[i + 1 + k]? = some y := ⟨xs[i + 1 + k]'(by omega), List.getElem?_eq_getElem (by omega)⟩
        obtain ⟨c, hc, hyc⟩ := paired_at pr _ y hy
        refine ⟨_, rfl, _, rfl, a, _, _, x, rfl, rfl, SqT.of (g2 _ _ ha), by rw [Int.zero_add]; exact atI_nat hx, _, rfl, _, rfl, a, _, _, y, rfl, rfl, SqT.of (g2 _ _ ha), by rw [show (0 + (i : Int) + 1 + (k : Int)) = ((i + 1 + k : Nat) : Int) by omega]; exact atI_nat hy, ?_⟩
        refine ⟨x, y, rfl, b, c, hxb.mono (same_tups g2), hyc.mono (same_tups g2), ok b (List.mem_of_getElem? hb), ok c (List.mem_of_getElem? hc), fun H3 g3 => ⟨_, rfl, ?_⟩⟩
        have g23 := g2.trans g3
        have lzz : zs.length = (pairsUp (onB arePair bs) bs.length i ++ rowUp (onB arePair bs) i k).length := paired_len pz
        rw [List.length_append] at lzz
        refine ite2 (fun z => ?_) (fun z => ?_)
        · refine ⟨_, rfl, .inl ⟨rfl, _, SqL.of (g3 _ _ hz)⟩, _, rfl, _, rfl, l2, fun t ht => ?_⟩
          have gt := same_new (o := .tup [V.int (0 + (i : Int)), V.int (0 + (i : Int) + 1 + (k : Int))]) ht
          refine ⟨D, zs, .ref t, rfl, rfl, gt _ _ (g3 _ _ hz), ?_, ?_⟩
          · have b1 : (10000 : Nat) < PySem.sizeLine := by decide
            omega
          · have kd : ∀ e us, upd H3 t (.tup [V.int (0 + (i : Int)), V.int (0 + (i : Int) + 1 + (k : Int))]) e = some (.tup us) → upd (upd H3 t (.tup [V.int (0 + (i : Int)), V.int (0 + (i : Int) + 1 + (k : Int))])) D (.lst (zs ++ [.ref t])) e = some (.tup us) := fun e us he => by
              rw [upd_ne (fun w => by rw [w, gt _ _ (g3 _ _ hz)] at he; cases he)]
              exact he
            refine ⟨_, rfl, ⟨zs ++ [.ref t], upd_same, ?_⟩, ?_, same_mut (g23.trans gt) hD⟩
            · rw [rowUp_one, onB_at hb hc, if_pos z, ← List.append_assoc]
              refine paired_snoc (paired_mono (fun _ _ w => (w.mono (same_tups (g3.trans gt))).mono kd) pz) ⟨t, rfl, ?_⟩
              rw [kd _ _ upd_same]
              show some (HO.tup [V.int (0 + (i : Int)), V.int (0 + (i : Int) + 1 + (k : Int))]) = some (HO.tup [V.int (i : Int), V.int ((i + 1 + k : Nat) : Int)])
              rw [show (0 + (i : Int) + 1 + (k : Int)) = ((i + 1 + k : Nat) : Int) by omega, Int.zero_add]
            · rw [rowUp_one, onB_at hb hc, if_pos z, List.length_append]
              exact Nat.succ_le_succ lz
        · refine ⟨_, rfl, ⟨zs, g3 _ _ hz, ?_⟩, ?_, g23⟩
          · rw [rowUp_one, onB_at hb hc, if_neg z, List.append_nil]
            exact paired_mono (fun _ _ w => w.mono (same_tups g3)) pz
          · rw [rowUp_one, onB_at hb hc, if_neg z, List.append_nil]
            omega
      · rintro σ H2 ⟨v3, rfl, hz, lz, g2⟩
        have e1 : ((xs.length : Int) - (0 + (i : Int) + 1)).toNat = bs.length - (i + 1) := by omega
        rw [e1] at hz lz
        refine ⟨_, _, rfl, ?_, ?_, g2⟩
        · rw [pairsUp_one]
          exact hz
        · rw [pairsUp_one, List.length_append]
          omega
    · rintro σ H1 ⟨v2, v3, rfl, hw, lw, g⟩
      have e1 : ((xs.length : Nat) : Int).toNat = bs.length := by omega
      rw [e1] at hw
      exact ⟨_, rfl, q D H1 hD hw g⟩
end
end K21
namespace K21
open PySem L2 Nm
open C8 (Cal Mak pe_c pe_mk pe_gc)
open RZ (ItzT pi_zipA)
theorem ext_lt {a b : List Str} (h : rowExt a b = true) : rowLt a b = true := by
  unfold rowExt at h
  rw [Bool.and_eq_true] at h
  have e1 := of_decide_eq_true h.1
  have e2 := of_decide_eq_true h.2
  have ne : b ≠ [] := fun z => by
    rw [z] at e2
    simp at e2
  have e3 := List.dropLast_concat_getLast ne
  rw [e1] at e3
  rw [← e3]
  exact row_more a _
/-- the two rows in their order: the one goes on the other just if one of both goes on the other one -/
theorem two_rows {xr yr : Addr} {B C : List Str} {H : Hp} (hx : H xr = some (.tup (B.map V.str))) (hy : H yr = some (.tup (C.map V.str))) {k : V → List PyData} (kx : k (.ref xr) = rowL B) (ky : k (.ref yr) = rowL C) {ys : List V} (sd : SrtO.Srtd (NmD.ltV k) ys) (pm : ys.Perm [.ref xr, .ref yr]) :
    ∃ (p0 p1 : Addr) (R0 R1 : List Str), ys = [.ref p0, .ref p1] ∧ H p0 = some (.tup (R0.map V.str)) ∧ H p1 = some (.tup (R1.map V.str)) ∧ (R0 = B ∧ R1 = C ∨ R0 = C ∧ R1 = B) ∧ rowExt R0 R1 = (rowExt B C || rowExt C B) := by
  have len := pm.length_eq
  match ys, len, sd, pm with
  | [u, v], _, sd, pm =>
    have lt : NmD.ltV k v u = false := (List.pairwise_cons.mp sd).1 v List.mem_cons_self
    have pm' : [u, v] = [.ref xr, .ref yr] ∨ [u, v] = [.ref yr, .ref xr] := by
      have hu : u ∈ [V.ref xr, V.ref yr] := pm.mem_iff.mp List.mem_cons_self
      simp only [List.mem_cons, List.not_mem_nil, or_false] at hu
      rcases hu with rfl | rfl
      · have r := (List.perm_cons _).mp pm
        rw [List.perm_singleton.mp r]
        exact .inl rfl
      · have r := (List.perm_cons _).mp (pm.trans (List.Perm.swap _ _ _))
        rw [List.perm_singleton.mp r]
        exact .inr rfl
    rcases pm' with e | e
    · cases e
      have lt' : rowLt C B = false := by
        have z := lt
        show PyProof.Rows.lexLt PyProof.Rows.itemOrd (PySem.W.keyToksAll (rowL C)) (PySem.W.keyToksAll (rowL B)) = false
        rw [← kx, ← ky]
        exact z
      refine ⟨xr, yr, B, C, rfl, hx, hy, .inl ⟨rfl, rfl⟩, ?_⟩
      have x : rowExt C B = false := by
        cases e : rowExt C B with
        | false => rfl
        | true =>
          rw [ext_lt e] at lt'
          cases lt'
      rw [x, Bool.or_false]
    · cases e
      have lt' : rowLt B C = false := by
        have z := lt
        show PyProof.Rows.lexLt PyProof.Rows.itemOrd (PySem.W.keyToksAll (rowL B)) (PySem.W.keyToksAll (rowL C)) = false
        rw [← kx, ← ky]
        exact z
      refine ⟨yr, xr, C, B, rfl, hy, hx, .inr ⟨rfl, rfl⟩, ?_⟩
      have x : rowExt B C = false := by
        cases e : rowExt B C with
        | false => rfl
        | true =>
          rw [ext_lt e] at lt'
          cases lt'
      rw [x, Bool.false_or]
theorem map_str_inj {a b : List Str} (h : a.map V.str = b.map V.str) : a = b := by
  induction a generalizing b with
  | nil =>
    cases b with
    | nil => rfl
    | cons y b => cases h
  | cons x a ih =>
    cases b with
    | nil => cases h
    | cons y b =>
      rw [List.map_cons, List.map_cons] at h
      injection h with h1 h2
      rw [V.str.inj h1, ih h2]
section
variable {P : Program} {w : World} {K : PySem.W.Frag} {mg : Str → Option Value} {base : Heap}
def sp__law_apart (K : PySem.W.Frag) : Sp := fun vs H Q _ => ∃ (a : Addr), vs = [.ref a] ∧ ∃ bs, BoardsAt H a bs ∧ (∀ b ∈ bs, okB b) ∧ bs.length ≤ 60 ∧ ∀ (p : Addr) (H' : Hp), H p = none → PrsAt H' p (pairsOf (onB areApart bs) bs.length) → Same H H' → Q (.ref p) H'
theorem c__law_apart (T : Txt K mg) : Cal P w K mg base 2 "_law_apart" (sp__law_apart K) [] := by
  have sc := sc__law_apart
  refine cal_of T.d__law_apart sc (fun _ _ _ _ _ _ us hl => match us, hl with | [_], _ => rfl) (fun vs H Q E h => ?_) (fun f cdv A outer s H vs Q E hr h => ?_)
  · obtain ⟨a, rfl, _⟩ := h
    rfl
  · obtain ⟨a, rfl, h⟩ := h
    obtain ⟨bs, ⟨xs, ha, pr⟩, ok, l60, q⟩ := h
    have el : xs.length = bs.length := paired_len pr
    refine ⟨_, (pss_cons (ps_set (i := 1) sc.nd rfl (Or.inl rfl) (pe_lst pa_nil))
  (pss_cons (ps_for PassesOwn.never rfl (pi_range1 rfl T.m_range (pa_cons (pe_callB call_len_seq rfl T.m_len (by decide +kernel) (pa_cons (pv 0) pa_nil)) pa_nil)) (pg_name (i := 2) sc.nd rfl (Or.inl rfl)) (pss_one (ps_for PassesOwn.never rfl (pi_range2 rfl T.m_range (pa_cons (pe_op op_add (pv 2) pe_int) (pa_cons (pe_callB call_len_seq rfl T.m_len (by decide +kernel) (pa_cons (pv 0) pa_nil)) pa_nil))) (pg_name (i := 3) sc.nd rfl (Or.inl rfl)) (pss_cons (ps_set (i := 4) sc.nd rfl (Or.inl rfl) (pe_callB (NmD.cr_sortD (u66 hr)) rfl T.m_sorted (by decide +kernel) (pa_cons (pe_lst (pa_cons (pe_ix ix_tup (pe_ix ix_tup (pv 0) (pv 2) (fun _ _ => rfl)) pe_int (fun _ _ => rfl)) (pa_cons (pe_ix ix_tup (pe_ix ix_tup (pv 0) (pv 3) (fun _ _ => rfl)) pe_int (fun _ _ => rfl)) pa_nil))) pa_nil)))
  (pss_one (ps_if (PW.pt (pw_and (pt_cmpR op_eq (pe_ix ix_tup (pe_ix ix_tup (pv 0) (pv 2) (fun _ _ => rfl)) pe_int (fun _ _ => rfl)) (pe_ix ix_tup (pe_ix ix_tup (pv 0) (pv 3) (fun _ _ => rfl)) pe_int (fun _ _ => rfl)) (nomark _)) (pw_and1 (pt_cmpR op_ne (pe_ix ix_tup (pe_ix ix_tup (pv 0) (pv 2) (fun _ _ => rfl)) pe_int (fun _ _ => rfl)) (pe_ix ix_tup (pe_ix ix_tup (pv 0) (pv 3) (fun _ _ => rfl)) pe_int (fun _ _ => rfl)) (nomark _))))) (pss_one (ps_if (PW.pt (pw_and (pt_cmpR op_eq (pe_callB call_len_seq rfl T.m_len (by decide +kernel) (pa_cons (pe_ix ix_list (pv 4) pe_int (fun _ _ => rfl)) pa_nil)) (pe_op op_add (pe_callB call_len_seq rfl T.m_len (by decide +kernel) (pa_cons (pe_ix ix_list (pv 4) pe_int (fun _ _ => rfl)) pa_nil)) pe_int) (nomark _)) (pw_and1 (pt_cmpR (op_eqD hr.units) (pe_slice sl_tupA (pe_ix ix_list (pv 4) pe_int (fun _ _ => rfl)) po_none (po_some (pe_un un_neg pe_int))) (pe_ix ix_list (pv 4) pe_int (fun _ _ => rfl)) (nomark _))))) (pss_one (ps_expr (pe_bm PySem.F.plainAttrs_list PySem.F.slot_list_append PySem.F.type_list_append mt_append (pv 1) (pa_cons (pe_tup (pa_cons (pv 2) (pa_cons (pv 3) pa_nil))) pa_nil)))) pss_nil)) pss_nil))))))
  (pss_one (ps_ret (pv 1))))), ?_⟩
    refine ⟨(by show 0 ≤ PySem.sizeLine; decide), fun D hD => ?_⟩
    have g0 := same_new (o := .lst []) hD
    refine ⟨_, rfl, a, _, rfl, .inr (SqT.of (g0 _ _ ha)), _, rfl, by omega, by omega, ?_⟩
    refine for_range (lo := 0) (n := ((xs.length : Nat) : Int).toNat) (fun i σ H1 => ∃ v2 v3 v4, σ = [some (.ref a), some (.ref D), v2, v3, v4] ∧ PrsAt H1 D (pairsUp (onB areApart bs) bs.length i) ∧ (pairsUp (onB areApart bs) bs.length i).length ≤ i * 60 ∧ Same H H1)
      ⟨_, _, _, rfl, ⟨[], upd_same, .nil⟩, Nat.zero_le _, g0⟩ ?_ ?_
    · rintro i σ H1 hi ⟨v2, v3, v4, rfl, ⟨ws, hw, pw⟩, lw, g⟩
      have hi' : i < bs.length := by omega
      obtain ⟨x, hx⟩ : ∃ x, xs[i]? = some x := ⟨xs[i]'(by omega), List.getElem?_eq_getElem (by omega)⟩
      obtain ⟨b, hb, xa, xr, rfl, hxa, hxr⟩ := paired_at pr i x hx
      refine ⟨_, rfl, _, _, rfl, rfl, _, rfl, a, _, rfl, .inr (SqT.of (g _ _ ha)), _, _, rfl, ⟨by omega, by omega, by omega, by omega⟩, ?_⟩
      refine for_range (lo := 0 + (i : Int) + 1) (n := ((xs.length : Int) - (0 + (i : Int) + 1)).toNat) (fun k σ H2 => ∃ v3 v4, σ = [some (.ref a), some (.ref D), some (.int (0 + (i : Int))), v3, v4] ∧ PrsAt H2 D (pairsUp (onB areApart bs) bs.length i ++ rowUp (onB areApart bs) i k) ∧ (rowUp (onB areApart bs) i k).length ≤ k ∧ Same H H2)
        ⟨_, _, rfl, ⟨ws, hw, by rw [show rowUp (onB areApart bs) i 0 = [] from rfl, List.append_nil]; exact pw⟩, Nat.zero_le _, g⟩ ?_ ?_
      · rintro k σ H2 hk ⟨v3, v4, rfl, ⟨zs, hz, pz⟩, lz, g2⟩
        have hk' : i + 1 + k < bs.length := by omega
        obtain ⟨y, hy⟩ : ∃ y, xs[i + 1 + k]? = some y := ⟨xs[i + 1 + k]'(by omega), List.getElem?_eq_getElem (by omega)⟩
        obtain ⟨c, hc, ya, yr, rfl, hya, hyr⟩ := paired_at pr _ y hy
        have obb := ok b (List.mem_of_getElem? hb)
        have occ := ok c (List.mem_of_getElem? hc)
        have ai : atI xs (0 + (i : Int)) = some (V.ref xa) := by
          rw [Int.zero_add]
          exact atI_nat hx
        have ak : atI xs (0 + (i : Int) + 1 + (k : Int)) = some (V.ref ya) := by
          rw [show (0 + (i : Int) + 1 + (k : Int)) = ((i + 1 + k : Nat) : Int) by omega]
          exact atI_nat hy
        have lzz : zs.length = (pairsUp (onB areApart bs) bs.length i ++ rowUp (onB areApart bs) i k).length := paired_len pz
        rw [List.length_append] at lzz
        refine ⟨_, rfl, _, rfl, a, _, _, _, rfl, rfl, SqT.of (g2 _ _ ha), ai, xa, _, 2, .ref xr, rfl, rfl, SqT.of (g2 _ _ hxa), rfl, _, rfl, _, rfl, a, _, _, _, rfl, rfl, SqT.of (g2 _ _ ha), ak, ya, _, 2, .ref yr, rfl, rfl, SqT.of (g2 _ _ hya), rfl, l2, fun ls hls => ?_⟩
        have gl := same_new (o := .lst [V.ref xr, V.ref yr]) hls
        have g2l := g2.trans gl
        have kx : (fun v : V => if v = V.ref xr then rowL b.2.2 else rowL c.2.2) (.ref xr) = rowL b.2.2 := if_pos rfl
        have ky : (fun v : V => if v = V.ref xr then rowL b.2.2 else rowL c.2.2) (.ref yr) = rowL c.2.2 := by
          show (if V.ref yr = V.ref xr then rowL b.2.2 else rowL c.2.2) = rowL c.2.2
          by_cases e : yr = xr
          · have e2 : b.2.2 = c.2.2 := by
              rw [e, hxr] at hyr
              injection hyr with h1
              injection h1 with h2
              exact map_str_inj h2
            rw [if_pos (by rw [e]), e2]
          · exact if_neg fun z => e (V.ref.inj z)
        generalize (fun v : V => if v = V.ref xr then rowL b.2.2 else rowL c.2.2) = kk at kx ky
        have of2 : ∀ {pp : V → Prop}, pp (.ref xr) → pp (.ref yr) → ∀ v ∈ [V.ref xr, V.ref yr], pp v := fun h1 h2 v hv => by
          simp only [List.mem_cons, List.not_mem_nil, or_false] at hv
          rcases hv with rfl | rfl
          · exact h1
          · exact h2
        refine ⟨ls, _, kk, rfl, SqL.of upd_same, of2 ⟨⟨_, rfl⟩, ?_, ?_, ?_⟩ ⟨⟨_, rfl⟩, ?_, ?_, ?_⟩, of2 (of2 ?_ ?_) (of2 ?_ ?_), fun ys p sd st hp => ?_⟩
        · rw [kx]
          exact dp_row (g2l _ _ hxr)
        · rw [kx]
          exact pure_rowL _
        · rw [kx, depth_rowL]
          exact Nat.zero_le _
        · rw [ky]
          exact dp_row (g2l _ _ hyr)
        · rw [ky]
          exact pure_rowL _
        · rw [ky, depth_rowL]
          exact Nat.zero_le _
        · rw [kx]
          exact alike_rowL _ _
        · rw [kx, ky]
          exact alike_rowL _ _
        · rw [kx, ky]
          exact alike_rowL _ _
        · rw [ky]
          exact alike_rowL _ _
        have gp := same_new (o := .lst ys) hp
        have g3 := g2l.trans gp
        have gz := gl.trans gp
        obtain ⟨p0, p1, R0, R1, rfl, h0, h1, which, ext⟩ := two_rows (g3 _ _ hxr) (g3 _ _ hyr) kx ky sd st.perm
        have lay0 : (∀ z ∈ R0, PyData.canLay0 (.str z) = true) ∧ (∀ z ∈ R1, PyData.canLay0 (.str z) = true) := by
          rcases which with ⟨rfl, rfl⟩ | ⟨rfl, rfl⟩
          · exact ⟨obb.lay, occ.lay⟩
          · exact ⟨occ.lay, obb.lay⟩
        have hys : upd (upd H2 ls (.lst [V.ref xr, V.ref yr])) p (.lst [V.ref p0, V.ref p1]) p = some (.lst [V.ref p0, V.ref p1]) := upd_same
        -- nothing is put in
        have skip : ∀ (H3 : Hp), Same (upd (upd H2 ls (.lst [V.ref xr, V.ref yr])) p (.lst [V.ref p0, V.ref p1])) H3 → areApart b c = false → ∃ v3 v4, [some (V.ref a), some (V.ref D), some (V.int (0 + (i : Int))), some (V.int (0 + (i : Int) + 1 + (k : Int))), some (V.ref p)] = [some (V.ref a), some (V.ref D), some (V.int (0 + (i : Int))), v3, v4] ∧
            PrsAt H3 D (pairsUp (onB areApart bs) bs.length i ++ rowUp (onB areApart bs) i (k + 1)) ∧ (rowUp (onB areApart bs) i (k + 1)).length ≤ k + 1 ∧ Same H H3 := fun H3 g4 no => by
          have gz3 := gz.trans g4
          refine ⟨_, _, rfl, ⟨zs, gz3 _ _ hz, ?_⟩, ?_, g3.trans g4⟩
          · rw [rowUp_one, onB_at hb hc, no, if_neg Bool.false_ne_true, List.append_nil]
            exact paired_mono (fun _ _ w => w.mono (same_tups gz3)) pz
          · rw [rowUp_one, onB_at hb hc, no, if_neg Bool.false_ne_true, List.append_nil]
            omega
        refine ⟨_, rfl, _, rfl, a, _, _, _, rfl, rfl, SqT.of (g3 _ _ ha), ai, xa, _, 0, .str b.1, rfl, rfl, SqT.of (g3 _ _ hxa), rfl, _, rfl, _, rfl, a, _, _, _, rfl, rfl, SqT.of (g3 _ _ ha), ak, ya, _, 0, .str c.1, rfl, rfl, SqT.of (g3 _ _ hya), rfl, rfl, _, rfl, ?_⟩
        rw [decS]
        refine ite2 (fun z1 => ?_) (fun z1 => ?_)
        · refine ⟨_, rfl, _, rfl, a, _, _, _, rfl, rfl, SqT.of (g3 _ _ ha), ai, xa, _, 1, .int b.2.1, rfl, rfl, SqT.of (g3 _ _ hxa), rfl, _, rfl, _, rfl, a, _, _, _, rfl, rfl, SqT.of (g3 _ _ ha), ak, ya, _, 1, .int c.2.1, rfl, rfl, SqT.of (g3 _ _ hya), rfl, rfl, _, rfl, ?_⟩
          rw [decI]
          refine ite2 (fun z2 => ?_) (fun z2 => ?_)
          · have val : areApart b c = rowExt R0 R1 := by
              unfold areApart
              rw [z1, z2, ext, Bool.true_and, Bool.true_and]
            refine ⟨_, rfl, p, _, 1, .ref p1, rfl, rfl, SqL.of hys, rfl, p1, _, rfl, .inr (SqT.of h1), _, rfl, p, _, 0, .ref p0, rfl, rfl, SqL.of hys, rfl, p0, _, rfl, .inr (SqT.of h0), _, _, rfl, rfl, rfl, _, rfl, ?_⟩
            rw [decI, List.length_map, List.length_map]
            refine ite2 (fun z3 => ?_) (fun z3 => ?_)
            · have l3 : R1.length = R0.length + 1 := by
                have := of_decide_eq_true z3
                omega
              refine ⟨_, rfl, p, _, 1, .ref p1, rfl, rfl, SqL.of hys, rfl, 1, rfl, _, rfl, sl_last h1 fun d H4 g4 hd => ?_⟩
              rw [← List.map_dropLast] at hd
              refine ⟨_, rfl, p, _, 0, .ref p0, rfl, rfl, SqL.of (g4 _ _ hys), rfl, rowD R1.dropLast, rowD R0, dp_row hd, dp_row (g4 _ _ h0), shaped_row (fun z hz => lay0.2 z ((List.dropLast_sublist R1).subset hz)), shaped_row lay0.1, _, rfl, ?_⟩
              rw [eqv_row]
              have val2 : areApart b c = decide (R1.dropLast = R0) := by
                rw [val]
                unfold rowExt
                rw [decide_eq_true l3, Bool.and_true]
              refine ite2 (fun z4 => ?_) (fun z4 => ?_)
              · have gz4 := gz.trans g4
                refine ⟨_, rfl, .inl ⟨rfl, _, SqL.of (gz4 _ _ hz)⟩, _, rfl, _, rfl, l2, fun t ht => ?_⟩
                have gt := same_new (o := .tup [V.int (0 + (i : Int)), V.int (0 + (i : Int) + 1 + (k : Int))]) ht
                refine ⟨D, zs, .ref t, rfl, rfl, gt _ _ (gz4 _ _ hz), ?_, ?_⟩
                · have b1 : (10000 : Nat) < PySem.sizeLine := by decide
                  omega
                · have kd : ∀ e us, upd H4 t (.tup [V.int (0 + (i : Int)), V.int (0 + (i : Int) + 1 + (k : Int))]) e = some (.tup us) → upd (upd H4 t (.tup [V.int (0 + (i : Int)), V.int (0 + (i : Int) + 1 + (k : Int))])) D (.lst (zs ++ [.ref t])) e = some (.tup us) := fun e us he => by
                    rw [upd_ne (fun w => by rw [w, gt _ _ (gz4 _ _ hz)] at he; cases he)]
                    exact he
                  refine ⟨_, _, rfl, ⟨zs ++ [.ref t], upd_same, ?_⟩, ?_, same_mut ((g3.trans g4).trans gt) hD⟩
                  · rw [rowUp_one, onB_at hb hc, val2, if_pos z4, ← List.append_assoc]
                    refine paired_snoc (paired_mono (fun _ _ w => (w.mono (same_tups (gz4.trans gt))).mono kd) pz) ⟨t, rfl, ?_⟩
                    rw [kd _ _ upd_same]
                    show some (HO.tup [V.int (0 + (i : Int)), V.int (0 + (i : Int) + 1 + (k : Int))]) = some (HO.tup [V.int (i : Int), V.int ((i + 1 + k : Nat) : Int)])
                    rw [show (0 + (i : Int) + 1 + (k : Int)) = ((i + 1 + k : Nat) : Int) by omega, Int.zero_add]
                  · rw [rowUp_one, onB_at hb hc, val2, if_pos z4, List.length_append]
                    exact Nat.succ_le_succ lz
              · exact skip H4 g4 (by rw [val2]; exact Bool.eq_false_iff.mpr z4)
            · refine iteF (skip _ (Same.refl _) ?_)
              rw [val]
              unfold rowExt
              have := of_decide_eq_false (Bool.eq_false_iff.mpr z3)
              rw [decide_eq_false (show ¬ (R1.length = R0.length + 1) by omega), Bool.and_false]
          · refine skip _ (Same.refl _) ?_
            unfold areApart
            rw [Bool.eq_false_iff.mpr z2]
            simp
        · refine iteF (skip _ (Same.refl _) ?_)
          unfold areApart
          rw [Bool.eq_false_iff.mpr z1, Bool.false_and]
      · rintro σ H2 ⟨v3, v4, rfl, hz, lz, g2⟩
        have e1 : ((xs.length : Int) - (0 + (i : Int) + 1)).toNat = bs.length - (i + 1) := by omega
        rw [e1] at hz lz
        refine ⟨_, _, _, rfl, ?_, ?_, g2⟩
        · rw [pairsUp_one]
          exact hz
        · rw [pairsUp_one, List.length_append]
          omega
    · rintro σ H1 ⟨v2, v3, v4, rfl, hw, lw, g⟩
      have e1 : ((xs.length : Nat) : Int).toNat = bs.length := by omega
      rw [e1] at hw
      exact ⟨_, rfl, q D H1 hD hw g⟩
end
end K21
namespace K21
open PySem L2 Nm
open C8 (Cal Mak pe_c pe_mk pe_gc)
open RZ (ItzT pi_zipA)
theorem same_not {α : Type} [DecidableEq α] (x : α) : (!decide (x = x)) = false := by
  rw [decide_eq_true rfl]
  rfl
theorem not_of {α : Type} [DecidableEq α] {x y : α} (h : x = y) : (!decide (x = y)) = false := by
  rw [decide_eq_true h]
  rfl
theorem filter_one {c : Pr → Bool} {ps : List Pr} {i : Nat} {p : Pr} (h : ps[i]? = some p) : (ps.take (i + 1)).filter c = (ps.take i).filter c ++ (if c p = true then [p] else []) := by
  rw [take_one h, List.filter_append]
  congr 1
  by_cases e : c p = true
  · rw [if_pos e, List.filter_cons_of_pos e]
    rfl
  · rw [if_neg e, List.filter_cons_of_neg e]
    rfl
/-- what is new, and then what a new thing keeps -/
theorem made_same {H H4 : Hp} {x dx C : Addr} (hx : H x = none) (hdx : H dx = none) (kp : ∀ b o, upd (upd H dx (.own x)) x (.ins C dx []) b = some o → b ≠ x → H4 b = some o) : Same H H4 := fun b o ho => kp b o (by rw [upd_ne (ne_of_none ho hx), upd_ne (ne_of_none ho hdx)]; exact ho) (ne_of_none ho hx)
theorem turn_at {bs : List Bd} {i j : Nat} : onB arePair (bs.map turnB) i j = onB (fun b c => arePair (turnB b) (turnB c)) bs i j := by
  unfold onB
  rw [List.getElem?_map, List.getElem?_map]
  cases bs[i]? <;> cases bs[j]? <;> rfl
theorem at_both {bs : List Bd} (ok : ∀ b ∈ bs, okB b) {i j : Nat} (hij : i < j) (hj : j < bs.length) : ∃ b c, bs[i]? = some b ∧ bs[j]? = some c ∧ okB b ∧ okB c := by
  have e1 : bs[i]? = some (bs[i]'(by omega)) := List.getElem?_eq_getElem (by omega)
  have e2 : bs[j]? = some (bs[j]'hj) := List.getElem?_eq_getElem hj
  exact ⟨_, _, e1, e2, ok _ (List.mem_of_getElem? e1), ok _ (List.mem_of_getElem? e2)⟩
theorem mem_apart {f : Nat → Nat → Bool} {n i j : Nat} (hij : i < j) (hj : j < n) : (((i : Int), (j : Int)) ∈ pairsOf f n) ↔ f i j = true := by
  rw [mem_pairsUp]
  constructor
  · rintro ⟨i', j', e, _, _, _, h⟩
    have e1 : i = i' := by
      have := (Prod.mk.inj e).1
      omega
    have e2 : j = j' := by
      have := (Prod.mk.inj e).2
      omega
    rw [e1, e2]
    exact h
  · intro h
    exact ⟨i, j, rfl, hij, hj, by omega, h⟩
/-- turned about: all but those one word apart stay -/
theorem turned_rest {bs : List Bd} (ok : ∀ b ∈ bs, okB b) :
    (pairsOf (onB arePair (bs.map turnB)) bs.length).filter (fun p => !decide (p ∈ pairsOf (onB areApart bs) bs.length)) = (pairsOf (onB arePair bs) bs.length).filter (fun p => !decide (p ∈ pairsOf (onB areApart bs) bs.length)) := by
  rw [filter_pairsOf, filter_pairsOf]
  refine pairsOf_congr fun i j hij hj => ?_
  obtain ⟨b, c, h1, h2, ob, oc⟩ := at_both ok hij hj
  show (onB arePair (bs.map turnB) i j && !decide (((i : Int), (j : Int)) ∈ pairsOf (onB areApart bs) bs.length)) = (onB arePair bs i j && !decide (((i : Int), (j : Int)) ∈ pairsOf (onB areApart bs) bs.length))
  rw [turn_at, onB_at h1 h2, onB_at h1 h2]
  cases a : areApart b c with
  | true =>
    rw [decide_eq_true ((mem_apart hij hj).mpr (by rw [onB_at h1 h2]; exact a))]
    simp
  | false => rw [(turn_pair ob.side oc.side).1 a]
/-- those one word apart are turned over -/
theorem turned_apart {bs : List Bd} (ok : ∀ b ∈ bs, okB b) {p : Pr} (h : p ∈ pairsOf (onB areApart bs) bs.length) :
    decide (p ∈ pairsOf (onB arePair (bs.map turnB)) bs.length) = !decide (p ∈ pairsOf (onB arePair bs) bs.length) := by
  obtain ⟨i, j, rfl, hij, hj, _, ha⟩ := mem_pairsUp.mp h
  obtain ⟨b, c, h1, h2, ob, oc⟩ := at_both ok hij hj
  rw [onB_at h1 h2] at ha
  have e1 : decide (((i : Int), (j : Int)) ∈ pairsOf (onB arePair (bs.map turnB)) bs.length) = arePair (turnB b) (turnB c) := by
    rw [Bool.eq_iff_iff, decide_eq_true_eq, mem_apart hij hj, turn_at, onB_at h1 h2]
  have e2 : decide (((i : Int), (j : Int)) ∈ pairsOf (onB arePair bs) bs.length) = arePair b c := by
    rw [Bool.eq_iff_iff, decide_eq_true_eq, mem_apart hij hj, onB_at h1 h2]
  rw [e1, e2]
  exact (turn_pair ob.side oc.side).2 ha
theorem app_first {bs cs : List Bd} : pairsOf (onB arePair (bs ++ cs)) bs.length = pairsOf (onB arePair bs) bs.length := by
  refine pairsOf_congr fun i j hij hj => ?_
  unfold onB
  rw [List.getElem?_append_left (by omega), List.getElem?_append_left hj]
theorem app_last {bs cs : List Bd} (i j : Nat) : onB arePair (bs ++ cs) (bs.length + i) (bs.length + j) = onB arePair cs i j := by
  unfold onB
  rw [List.getElem?_append_right (by omega), List.getElem?_append_right (by omega), Nat.add_sub_cancel_left, Nat.add_sub_cancel_left]
theorem pairs_len (f : Nat → Nat → Bool) (n : Nat) (h : n ≤ 60) : (pairsOf f n).length ≤ 3600 := by
  have one : ∀ i k : Nat, (rowUp f i k).length ≤ k := fun i k => by
    unfold rowUp
    rw [List.length_map]
    refine Nat.le_trans (List.length_filter_le _ _) ?_
    rw [List.length_map, List.length_range]
    exact Nat.le_refl k
  have all : ∀ m : Nat, (pairsUp f n m).length ≤ m * n := fun m => by
    induction m with
    | zero => exact Nat.zero_le _
    | succ m ih =>
      rw [pairsUp_one, List.length_append, Nat.succ_mul]
      have := one m (n - (m + 1))
      omega
  have a := all n
  have b : n * n ≤ 60 * 60 := Nat.mul_le_mul h h
  exact Nat.le_trans a b
section
variable {P : Program} {w : World} {K : PySem.W.Frag} {mg : Str → Option Value} {base : Heap}
def sp_law (K : PySem.W.Frag) : Sp := fun vs H Q _ => ∃ (a : Addr) (ns : List Int), vs = [.ref a] ∧ SqL K H a (ns.map V.int) ∧ ∀ H', Q (.bl true) H'
theorem ok_law {f : Addr} {fd : FuncData} (F : Fun K "law" "law" s_law f fd) (T : Txt K mg) : FnOk P w K mg base CX0 16 f fd ["script"] (sp_law K) := by
  obtain ⟨C, C_Hall⟩ := c_Hall (P := P) (w := w) (base := base) T
  have C__law_tape := c__law_tape (P := P) (w := w) (base := base) T
  have C__law_pick := c__law_pick (P := P) (w := w) (base := base) T
  have C__law_is := c__law_is (P := P) (w := w) (base := base) T
  have C__law_boards := c__law_boards (P := P) (w := w) (base := base) T
  have C__law_lengthened := c__law_lengthened (P := P) (w := w) (base := base) T
  have C__law_pairs := c__law_pairs (P := P) (w := w) (base := base) T
  have C__law_apart := c__law_apart (P := P) (w := w) (base := base) T
  have C_pairs := c_pairs (P := P) (w := w) (base := base) T
  have C_turned := c_turned (P := P) (w := w) (base := base) T
  have C_joined := c_joined (P := P) (w := w) (base := base) T
  have sc := sc_law
  refine F.ok (k := 15) sc (fun vs H Q E h => ?_) (fun cdv A outer s H vs Q E hr h => ?_)
  · obtain ⟨a, ns, rfl, _⟩ := h
    rfl
  · obtain ⟨a, ns, rfl, hs, q⟩ := h
    refine ⟨_, (pss_cons (ps_set (i := 1) sc.nd rfl (Or.inl rfl) (pe_c C__law_tape hr (by omega) rfl (pa_cons (pv 0) pa_nil)))
  (pss_cons (ps_for PassesOwn.never rfl (pi_range1 rfl T.m_range (pa_cons pe_int pa_nil)) (pg_name (i := 2) sc.nd rfl (Or.inl rfl)) (pss_cons (ps_set (i := 3) sc.nd rfl (Or.inl rfl) (pe_c C__law_boards hr (by omega) rfl (pa_cons (pv 1) (pa_cons pe_int (pa_cons (pe_cmpR op_gt (pv 2) pe_int (nomark _)) pa_nil)))))
  (C8.pss_cut (ps_if (pt_cmpR op_eq (pe_c C__law_pick hr (by omega) rfl (pa_cons (pv 1) (pa_cons pe_int pa_nil))) pe_int (nomark _)) (pss_one (ps_set (i := 3) sc.nd rfl (Or.inl rfl) (pe_c C__law_lengthened hr (by omega) rfl (pa_cons (pv 1) (pa_cons (pv 3) pa_nil))))) pss_nil)
  (pss_cons (ps_set (i := 4) sc.nd rfl (Or.inl rfl) (pe_mk C_Hall hr (by omega) rfl (pa_cons (pv 3) pa_nil)))
  (pss_cons (ps_set (i := 5) sc.nd rfl (Or.inr rfl) (pe_c C__law_pairs hr (by omega) rfl (pa_cons (pv 3) pa_nil)))
  (pss_cons (ps_set (i := 6) sc.nd rfl (Or.inl rfl) (pe_c C_pairs hr (by omega) rfl (pa_cons (pv 4) pa_nil)))
  (pss_cons (ps_if (PW.pt (pw_or (pt_not (pt_val (pe_callB call_isi rfl T.m_isinstance (by decide +kernel) (pa_cons (pv 6) (pa_cons (pe_bltn (v := .ty "list") (u := .type "list") rfl T.m_list (by decide +kernel) rfl) pa_nil))))) (pw_or1 (pt_not (pt_val (pe_c C__law_is hr (by omega) rfl (pa_cons (pv 6) (pa_cons (pv 5) pa_nil)))))))) (pss_one (ps_ret pe_bl)) pss_nil)
  (pss_cons (ps_expr (pe_bm PySem.F.plainAttrs_list PySem.F.slot_list_append PySem.F.type_list_append mt_append (pv 6) (pa_cons pe_non pa_nil)))
  (pss_cons (ps_if (pt_not (pt_val (pe_c C__law_is hr (by omega) rfl (pa_cons (pe_c C_pairs hr (by omega) rfl (pa_cons (pv 4) pa_nil)) (pa_cons (pv 5) pa_nil))))) (pss_one (ps_ret pe_bl)) pss_nil)
  (pss_cons (ps_set (i := 7) sc.nd rfl (Or.inr rfl) (pe_c C_pairs hr (by omega) rfl (pa_cons (pe_c C_turned hr (by omega) rfl (pa_cons (pv 4) pa_nil)) pa_nil)))
  (pss_cons (ps_set (i := 8) sc.nd rfl (Or.inr rfl) (pe_c C__law_apart hr (by omega) rfl (pa_cons (pv 3) pa_nil)))
  (pss_cons (ps_if (pt_cmpR (op_neD hr.units) (pe_lc (own := [("pair", 12)]) (g := gName 12) rfl sc.nd (pi_list (pv 7)) (blkOk_by (own := [("pair", 12)]) (N := ["script", "tape", "turn", "boards", "hall", "due", "told", "around", "apart", "other", "both", "many", "pair", "one", "two"]) (sc := defScope s_law) (by decide +kernel)) (fun _ _ _ _ _ => (pg_name (i := 12) sc.nd rfl (Or.inl rfl))) (fun _ _ _ _ _ => (pts_one (pt_cmpR (r := rNotInD K) (op_notInD (u65 hr)) (pv 12) (pv 8) rfl))) (fun _ _ _ _ _ => (pv 12))) (pe_lc (own := [("pair", 12)]) (g := gName 12) rfl sc.nd (pi_list (pv 5)) (blkOk_by (own := [("pair", 12)]) (N := ["script", "tape", "turn", "boards", "hall", "due", "told", "around", "apart", "other", "both", "many", "pair", "one", "two"]) (sc := defScope s_law) (by decide +kernel)) (fun _ _ _ _ _ => (pg_name (i := 12) sc.nd rfl (Or.inl rfl))) (fun _ _ _ _ _ => (pts_one (pt_cmpR (r := rNotInD K) (op_notInD (u65 hr)) (pv 12) (pv 8) rfl))) (fun _ _ _ _ _ => (pv 12))) (nomark _)) (pss_one (ps_ret pe_bl)) pss_nil)
  (pss_cons (ps_if (pt_val (pe_callB (cr_any rfl) rfl T.m_any (by decide +kernel) (pa_cons (pe_lc (own := [("pair", 12)]) (g := gName 12) rfl sc.nd (pi_list (pv 8)) (blkOk_by (own := [("pair", 12)]) (N := ["script", "tape", "turn", "boards", "hall", "due", "told", "around", "apart", "other", "both", "many", "pair", "one", "two"]) (sc := defScope s_law) (by decide +kernel)) (fun _ _ _ _ _ => (pg_name (i := 12) sc.nd rfl (Or.inl rfl))) (fun _ _ _ _ _ => pts_nil) (fun _ _ _ _ _ => (pe_cmpR op_eq (pe_cmpR (r := rInD K) (op_inD (u65 hr)) (pv 12) (pv 7) rfl) (pe_cmpR (r := rInD K) (op_inD (u65 hr)) (pv 12) (pv 5) rfl) (nomark _)))) pa_nil))) (pss_one (ps_ret pe_bl)) pss_nil)
  (pss_cons (ps_set (i := 9) sc.nd rfl (Or.inl rfl) (pe_c C__law_boards hr (by omega) rfl (pa_cons (pv 1) (pa_cons pe_int (pa_cons (pe_cmpR op_gt (pv 2) pe_int (nomark _)) pa_nil)))))
  (pss_cons (ps_set (i := 10) sc.nd rfl (Or.inl rfl) (pe_c C_pairs hr (by omega) rfl (pa_cons (pe_c C_joined hr (by omega) rfl (pa_cons (pv 4) (pa_cons (pe_mk C_Hall hr (by omega) rfl (pa_cons (pv 9) pa_nil)) pa_nil))) pa_nil)))
  (pss_cons (ps_set (i := 11) sc.nd rfl (Or.inr rfl) (pe_callB call_len_seq rfl T.m_len (by decide +kernel) (pa_cons (pv 3) pa_nil)))
  (pss_cons (ps_if (pt_cmpR (op_neD hr.units) (pe_lc (own := [("pair", 12)]) (g := gName 12) rfl sc.nd (pi_list (pv 10)) (blkOk_by (own := [("pair", 12)]) (N := ["script", "tape", "turn", "boards", "hall", "due", "told", "around", "apart", "other", "both", "many", "pair", "one", "two"]) (sc := defScope s_law) (by decide +kernel)) (fun _ _ _ _ _ => (pg_name (i := 12) sc.nd rfl (Or.inl rfl))) (fun _ _ _ _ _ => (pts_one (pt_cmpR op_lt (pe_ix (r := rIxT K) ix_tup (pv 12) pe_int (fun _ _ => rfl)) (pv 11) (nomark _)))) (fun _ _ _ _ _ => (pv 12))) (pv 5) (nomark _)) (pss_one (ps_ret pe_bl)) pss_nil)
  (pss_cons (ps_if (pt_cmpR (op_neD hr.units) (pe_lc (own := [("one", 13), ("two", 14)]) (g := gTup K 2 (gCons (gName 13) (gCons (gName 14) gNil))) rfl sc.nd (pi_list (pv 10)) (blkOk_by (own := [("one", 13), ("two", 14)]) (N := ["script", "tape", "turn", "boards", "hall", "due", "told", "around", "apart", "other", "both", "many", "pair", "one", "two"]) (sc := defScope s_law) (by decide +kernel)) (fun _ _ _ _ _ => (pg_tup rfl (pgs_cons (pg_name (i := 13) sc.nd rfl (Or.inl rfl)) (pgs_cons (pg_name (i := 14) sc.nd rfl (Or.inl rfl)) pgs_nil)))) (fun _ _ _ _ _ => (pts_one (pt_cmpR op_ge (pv 13) (pv 11) (nomark _)))) (fun _ _ _ _ _ => (pe_tup (pa_cons (pe_op op_sub (pv 13) (pv 11)) (pa_cons (pe_op op_sub (pv 14) (pv 11)) pa_nil))))) (pe_c C__law_pairs hr (by omega) rfl (pa_cons (pv 9) pa_nil)) (nomark _)) (pss_one (ps_ret pe_bl)) pss_nil)
  (pss_one (ps_if (pt_not (pt_val (pe_c C__law_is hr (by omega) rfl (pa_cons (pv 10) (pa_cons (pe_c C__law_pairs hr (by omega) rfl (pa_cons (pe_op op_catA (pv 3) (pv 9)) pa_nil)) pa_nil))))) (pss_one (ps_ret pe_bl)) pss_nil))))))))))))))))))))
  (pss_one (ps_ret pe_bl)))), ?_⟩
    refine ⟨_, rfl, a, rfl, ns, hs, fun tp l H1 g1 htp t1 => ?_⟩
    refine ⟨3, rfl, by decide, by decide, ?_⟩
    refine for_range (lo := 0) (n := 3) (fun i σ H2 => ∃ v2 v3 v4 v5 v6 v7 v8 v9 v10 v11 v12 v13 v14, σ = [some (.ref a), some (.ref tp), v2, v3, v4, v5, v6, v7, v8, v9, v10, v11, v12, v13, v14] ∧ TapeAt H2 tp l)
      ⟨_, _, _, _, _, _, _, _, _, _, _, _, _, rfl, t1⟩ ?_ ?_
    · rintro i σ H2 hi ⟨v2, v3, v4, v5, v6, v7, v8, v9, v10, v11, v12, v13, v14, rfl, t2⟩
      refine ⟨_, rfl, _, rfl, _, _, rfl, rfl, tp, 12, _, rfl, l, t2, by decide, by decide, fun r0 bs0 H3 hb0 ok0 l01 l02 t3 mv3 => ?_⟩
      refine ⟨fun σ H4 => ∃ r bs, σ = [some (.ref a), some (.ref tp), some (.int (0 + (i : Int))), some (.ref r), v4, v5, v6, v7, v8, v9, v10, v11, v12, v13, v14] ∧ BoardsAt H4 r bs ∧ (∀ b ∈ bs, okB b) ∧ 1 ≤ bs.length ∧ bs.length ≤ 12 ∧ TapeAt H4 tp l, ?_, ?_⟩
      · refine ⟨_, rfl, tp, 8, rfl, l, t3, by decide, by decide, fun r1 H4 _ _ t4 mv4 => ⟨rfl, _, rfl, ?_⟩⟩
        have hb4 := hb0.mono (t3.keep mv4).tups
        refine ite2 (fun _ => ?_) (fun _ => ?_)
        · refine ⟨_, rfl, _, rfl, tp, r0, rfl, l, bs0, t4, hb4, ok0, by omega, fun r cs H5 hb5 ok5 l5 t5 mv5 => ?_⟩
          exact ⟨r, cs, rfl, hb5, ok5, by omega, by omega, t5⟩
        · exact ⟨r0, bs0, rfl, hb4, fun b hb => (ok0 b hb).1, l01, by omega, t4⟩
      · clear mv3 t3 ok0 hb0 t2
        rintro σ H3 ⟨r, bs, rfl, hb, ok, l1, l12, t3⟩
        -- hall, due, told
        refine ⟨_, rfl, fun x dx hx hdx ne => ?_⟩
        have gx : Same H3 (upd (upd H3 dx (.own x)) x (.ins C dx [])) := fun c o ho => by
          rw [upd_ne (ne_of_none ho hx), upd_ne (ne_of_none ho hdx)]
          exact ho
        refine ⟨x, dx, r, bs, rfl, upd_same, hb.mono (same_tups gx), ok, l1, l12, fun H4 fs h4 lf hh kp => ⟨rfl, ?_⟩⟩
        have g4 := made_same hx hdx kp
        have hb4 := hb.mono (same_tups g4)
        have t4 := t3.same g4
        refine ⟨_, rfl, r, rfl, bs, hb4, ok, by omega, fun pd H5 hn5 hp5 g5 => ?_⟩
        have hh5 := hh.mono (same_keep g5)
        refine ⟨_, rfl, x, rfl, bs, hh5, ok, by omega, fun pt H6 hn6 hp6 g6 => ?_⟩
        have lps := pairs_len (onB arePair bs) bs.length (by omega)
        generalize hps : pairsOf (onB arePair bs) bs.length = ps at hp5 hp6 lps
        obtain ⟨us, hus, pus⟩ := hp6
        have hp6 : PrsAt H6 pt ps := ⟨us, hus, pus⟩
        refine ⟨_, rfl, _, _, _, _, true, rfl, .ty _, .base (.lst hus), kit_ty (by decide +kernel), true, rfl, ?_⟩
        refine iteN (nt rfl) ?_
        refine ⟨_, rfl, _, rfl, pt, pd, rfl, ps, ps, hp6, hp5.same g6, by omega, fun H7 g7 => ⟨_, rfl, ?_⟩⟩
        refine iteN (nt (same_not ps)) ?_
        -- told.append(None)
        have lus : us.length = ps.length := paired_len pus
        have b4 : (4000 : Nat) < PySem.sizeLine := by decide
        refine ⟨_, rfl, .inl ⟨rfl, _, SqL.of (g7 _ _ hus)⟩, pt, us, .non, rfl, rfl, g7 _ _ hus, by omega, ?_⟩
        have k8 : Keep H7 (upd H7 pt (.lst (us ++ [.non]))) := keep_lst (g7 _ _ hus)
        have nt5 := (t4.same g5).new hn6
        have g57 := g6.trans g7
        have t8 := ((t4.same g5).same g57).upd (p := pt) (o := .lst (us ++ [.non])) nt5
        have hh8 := (hh5.mono (same_keep g57)).mono k8
        have hb8 := ((hb4.mono (same_tups g5)).mono (same_tups g57)).mono k8.tups
        have hp8 : PrsAt (upd H7 pt (.lst (us ++ [.non]))) pd ps := by
          obtain ⟨ws, hw, pw⟩ := hp5.same g57
          have npd : pd ≠ pt := by
            obtain ⟨ws', hw', _⟩ := hp5
            exact ne_of_none hw' hn6
          exact ⟨ws, by rw [upd_ne npd]; exact hw, paired_mono (fun _ _ z => z.mono k8.tups) pw⟩
        generalize upd H7 pt (.lst (us ++ [.non])) = H8 at t8 hh8 hb8 hp8
        clear hp6 pus hus hh5 hp5 hn5 hn6 k8 nt5 g57 g7 g6 g5 hb4 t4 g4 kp h4 hh gx hx hdx t3 hb
        -- asked again
        refine ⟨_, rfl, x, rfl, bs, hh8, ok, by omega, fun pq H9 hn9 hp9 g9 => ?_⟩
        rw [hps] at hp9
        refine ⟨_, rfl, pq, pd, rfl, ps, ps, hp9, hp8.same g9, by omega, fun H10 g10 => ⟨_, rfl, ?_⟩⟩
        refine iteN (nt (same_not ps)) ?_
        have g8 := g9.trans g10
        -- around, apart
        refine ⟨_, rfl, x, rfl, bs, hh8.mono (same_keep g8), ok, l1, by omega, fun xt H11 hht g11 => ?_⟩
        refine ⟨xt, rfl, bs.map turnB, hht, fun b hb => ?_, by rw [List.length_map]; omega, fun pa H12 hn12 hp12 g12 => ?_⟩
        · obtain ⟨b', hb', rfl⟩ := List.mem_map.mp hb
          exact (ok b' hb').turn
        rw [List.length_map] at hp12
        have g812 := (g8.trans g11).trans g12
        refine ⟨_, rfl, r, rfl, bs, hb8.mono (same_tups g812), ok, by omega, fun pp H13 hn13 hp13 g13 => ?_⟩
        have g813 := g812.trans g13
        have lpa := pairs_len (onB arePair (bs.map turnB)) bs.length (by omega)
        have lpp := pairs_len (onB areApart bs) bs.length (by omega)
        have rest := turned_rest ok
        have over := fun p h => turned_apart ok (p := p) h
        rw [hps] at rest over
        have hpa := hp12.same g13
        have hpd := hp8.same g813
        generalize pairsOf (onB arePair (bs.map turnB)) bs.length = qs at hpa rest over lpa
        generalize pairsOf (onB areApart bs) bs.length = ap at hp13 rest over lpp
        have t13 := t8.same g813
        have hh13 := hh8.mono (same_keep g813)
        have hb13 := hb8.mono (same_tups g813)
        clear hp12 hn12 hn13 g812 g813 hht hp9 hn9 g9 g10 g11 g12 g8 hp8 hb8 hh8 t8
        -- all but those apart
        obtain ⟨ws1, hw1, pw1⟩ := id hpa
        have lw1 : ws1.length = qs.length := paired_len pw1
        refine ⟨_, rfl, pa, rfl, ⟨_, SqL.of hw1⟩, fun D1 hD1 => ?_⟩
        refine lc_list (K := K) (a := pa) (xs := ws1) (fun i H3 => ∃ zs, H3 D1 = some (.lst zs) ∧ Paired (PrAt H3) zs ((qs.take i).filter fun p => !decide (p ∈ ap)) ∧ zs.length ≤ i ∧ Same H13 H3) ⟨[], upd_same, .nil, Nat.zero_le _, same_new hD1⟩ (fun i H3 _ ⟨_, _, _, _, g⟩ => SqL.of (g _ _ hw1)) ?_ ?_
        · rintro i y H3 hy ⟨zs, hz, pz, lz, g3⟩
          obtain ⟨p, hpp, hyp⟩ := paired_at pw1 i y hy
          have hi3 : i < ws1.length := (List.getElem?_eq_some_iff.mp hy).1
          refine ⟨rfl, ?_⟩
          refine ⟨_, rfl, _, rfl, Nm.prD p, ap.map Nm.prD, dp_pr (hyp.mono (same_tups g3)), dp_prs (hp13.same g3), shaped_pr p, shaped_prs ap, _, rfl, ?_⟩
          rw [any_pr]
          refine ite2 (fun z => ?_) (fun z => ?_)
          · refine ⟨_, rfl, zs, hz, by omega, zs ++ [y], upd_same, ?_, by rw [List.length_append]; exact Nat.succ_le_succ lz, same_mut g3 hD1⟩
            rw [filter_one hpp, if_pos z]
            exact paired_snoc (paired_mono (fun _ _ w => w.mono (keep_lst hz).tups) pz) ((hyp.mono (same_tups g3)).mono (keep_lst hz).tups)
          · refine ⟨zs, hz, ?_, by omega, g3⟩
            rw [filter_one hpp, if_neg z, List.append_nil]
            exact pz
        rintro H14 ⟨zs1, hz1, pz1, lz1, gz1⟩
        rw [lw1, List.take_length] at pz1
        obtain ⟨ws2, hw2, pw2⟩ := (hpd.same gz1)
        have lw2 : ws2.length = ps.length := paired_len pw2
        refine ⟨_, rfl, pd, rfl, ⟨_, SqL.of hw2⟩, fun D2 hD2 => ?_⟩
        refine lc_list (K := K) (a := pd) (xs := ws2) (fun i H3 => ∃ zs, H3 D2 = some (.lst zs) ∧ Paired (PrAt H3) zs ((ps.take i).filter fun p => !decide (p ∈ ap)) ∧ zs.length ≤ i ∧ Same H14 H3) ⟨[], upd_same, .nil, Nat.zero_le _, same_new hD2⟩ (fun i H3 _ ⟨_, _, _, _, g⟩ => SqL.of (g _ _ hw2)) ?_ ?_
        · rintro i y H3 hy ⟨zs, hz, pz, lz, g3⟩
          obtain ⟨p, hpp, hyp⟩ := paired_at pw2 i y hy
          have hi3 : i < ws2.length := (List.getElem?_eq_some_iff.mp hy).1
          refine ⟨rfl, ?_⟩
          refine ⟨_, rfl, _, rfl, Nm.prD p, ap.map Nm.prD, dp_pr (hyp.mono (same_tups g3)), dp_prs ((hp13.same gz1).same g3), shaped_pr p, shaped_prs ap, _, rfl, ?_⟩
          rw [any_pr]
          refine ite2 (fun z => ?_) (fun z => ?_)
          · refine ⟨_, rfl, zs, hz, by omega, zs ++ [y], upd_same, ?_, by rw [List.length_append]; exact Nat.succ_le_succ lz, same_mut g3 hD2⟩
            rw [filter_one hpp, if_pos z]
            exact paired_snoc (paired_mono (fun _ _ w => w.mono (keep_lst hz).tups) pz) ((hyp.mono (same_tups g3)).mono (keep_lst hz).tups)
          · refine ⟨zs, hz, ?_, by omega, g3⟩
            rw [filter_one hpp, if_neg z, List.append_nil]
            exact pz
        rintro H15 ⟨zs2, hz2, pz2, lz2, gz2⟩
        rw [lw2, List.take_length] at pz2
        refine ⟨prsD _, prsD _, dp_prs ⟨zs1, gz2 _ _ hz1, paired_mono (fun _ _ z => z.mono (same_tups gz2)) pz1⟩, dp_prs ⟨zs2, hz2, pz2⟩, shaped_prs _, shaped_prs _, _, rfl, ?_⟩
        rw [eqv_prs, rest]
        refine iteN (nt (same_not _)) ?_
        -- those apart
        have g15 := gz1.trans gz2
        obtain ⟨ws, hw, pw⟩ := hp13.same g15
        have la : ws.length = ap.length := paired_len pw
        refine ⟨_, rfl, pp, rfl, ⟨_, SqL.of hw⟩, fun D hD => ?_⟩
        refine lc_list (K := K) (a := pp) (xs := ws) (fun i H3 => H3 D = some (.lst (List.replicate i (V.bl false))) ∧ Same H15 H3) ⟨upd_same, same_new hD⟩ (fun i H3 _ z => SqL.of (z.2 _ _ hw)) ?_ ?_
        · rintro i y H3 hy ⟨h3, g3⟩
          obtain ⟨p, hpp, hyp⟩ := paired_at pw i y hy
          have hi3 : i < ws.length := (List.getElem?_eq_some_iff.mp hy).1
          have g153 := g15.trans g3
          refine ⟨rfl, ?_⟩
          refine ⟨_, rfl, _, rfl, Nm.prD p, qs.map Nm.prD, dp_pr (hyp.mono (same_tups g3)), dp_prs (hpa.same g153), shaped_pr p, shaped_prs qs, _, rfl, _, rfl, Nm.prD p, ps.map Nm.prD, dp_pr (hyp.mono (same_tups g3)), dp_prs (hpd.same g153), shaped_pr p, shaped_prs ps, rfl, ?_⟩
          rw [any_pr, any_pr, over p (List.mem_of_getElem? hpp)]
          refine ⟨_, h3, ?_, ?_, same_mut g3 hD⟩
          · rw [List.length_replicate]
            omega
          · rw [upd_same, List.replicate_succ']
            congr 3
            cases decide (p ∈ ps) <;> rfl
        · rintro H16 ⟨h3, g16⟩
          refine ⟨D, List.replicate ws.length false, rfl, SqL.of (by rw [h3, List.map_replicate]), _, rfl, ?_⟩
          have an : (List.replicate ws.length false).any id = false := by
            rw [List.any_eq_false]
            intro z hz
            rw [List.eq_of_mem_replicate hz]
            exact Bool.false_ne_true
          refine iteN (nt an) ?_
          have g13' := g15.trans g16
          have t16 := t13.same g13'
          have hh16 := hh13.mono (same_keep g13')
          have hb16 := hb13.mono (same_tups g13')
          have hpd16 := hpd.same g13'
          clear hpd hb13 hh13 t13 g13' g16 h3 hw pw hD la g15 pz1 pz2 hz1 hz2 gz1 gz2 hpa hp13 rest over
          -- other, both
          refine ⟨_, rfl, _, rfl, _, _, rfl, rfl, tp, 6, _, rfl, l, t16, by decide, by decide, fun r2 cs H17 hb17 ok17 l17 l18 t17 mv17 => ?_⟩
          have k17 := t16.keep mv17
          have hh17 := hh16.mono k17
          have hbb17 := hb16.mono k17.tups
          have okc : ∀ b ∈ cs, okB b := fun b hb => (ok17 b hb).1
          have npd : pd ≠ tp := by
            obtain ⟨ws', hw', pw'⟩ := hpd16
            obtain ⟨ns', i', c', m', n', hT, _⟩ := t16
            intro e
            rw [e, hT] at hw'
            cases hw'
            cases pw' with
            | cons _ t =>
              cases t with
              | cons h _ =>
                obtain ⟨t', e', _⟩ := h
                cases e'
          have hpd17 : PrsAt H17 pd ps := by
            obtain ⟨ws', hw', pw'⟩ := hpd16
            exact ⟨ws', mv17 _ _ hw' npd, paired_mono (fun _ _ z => z.mono k17.tups) pw'⟩
          refine ⟨_, rfl, _, rfl, fun x2 dx2 hx2 hdx2 ne2 => ?_⟩
          have gx : Same H17 (upd (upd H17 dx2 (.own x2)) x2 (.ins C dx2 [])) := fun c o ho => by
            rw [upd_ne (ne_of_none ho hx2), upd_ne (ne_of_none ho hdx2)]
            exact ho
          refine ⟨x2, dx2, r2, cs, rfl, upd_same, hb17.mono (same_tups gx), okc, l17, by omega, fun H18 fs2 h18 lf2 hh2 kp2 => ⟨rfl, ?_⟩⟩
          have g18 := made_same hx2 hdx2 kp2
          refine ⟨x, x2, rfl, bs, cs, hh17.mono (same_keep g18), hh2, ok, okc, l1, by omega, fun xj H19 hhj g19 => ?_⟩
          have okj : ∀ b ∈ bs ++ cs, okB b := fun b hb => by
            rcases List.mem_append.mp hb with z | z
            · exact ok b z
            · exact okc b z
          refine ⟨xj, rfl, bs ++ cs, hhj, okj, by rw [List.length_append]; omega, fun pb H20 hn20 hp20 g20 => ?_⟩
          have g1720 := (g18.trans g19).trans g20
          have hb20 := hbb17.mono (same_tups g1720)
          have hc20 := hb17.mono (same_tups g1720)
          have hpd20 := hpd17.same g1720
          have t20 := t17.same g1720
          have lbo := pairs_len (onB arePair (bs ++ cs)) (bs ++ cs).length (by rw [List.length_append]; omega)
          have first := first_pairs (onB arePair (bs ++ cs)) bs.length cs.length
          have last := last_pairs (onB arePair (bs ++ cs)) (onB arePair cs) bs.length cs.length app_last
          rw [← List.length_append] at first last
          rw [app_first, hps] at first
          generalize hbo : pairsOf (onB arePair (bs ++ cs)) (bs ++ cs).length = bo at hp20 first last lbo
          clear g1720 hn20 hhj g18 g19 g20 kp2 hh2 gx hx2 hdx2 ne2 hpd17 hbb17 hh17 k17 mv17 t17 hb17 hpd16 hb16 hh16 t16 npd h18
          -- many
          obtain ⟨xs, hxs, pxs⟩ := hb20
          have lxs : xs.length = bs.length := paired_len pxs
          refine ⟨_, rfl, r, _, rfl, .inr (SqT.of hxs), ?_⟩
          rw [lxs]
          obtain ⟨ws, hw, pw⟩ := hp20
          have lw : ws.length = bo.length := paired_len pw
          -- the first ones
          refine ⟨_, rfl, pb, rfl, ⟨_, SqL.of hw⟩, fun D hD => ?_⟩
          refine lc_list (K := K) (a := pb) (xs := ws) (fun i H3 => ∃ zs, H3 D = some (.lst zs) ∧ Paired (PrAt H3) zs ((bo.take i).filter fun p => decide (p.2 < (bs.length : Int))) ∧ zs.length ≤ i ∧ Same H20 H3) ⟨[], upd_same, .nil, Nat.zero_le _, same_new hD⟩ (fun i H3 _ ⟨_, _, _, _, g⟩ => SqL.of (g _ _ hw)) ?_ ?_
          · rintro i y H3 hy ⟨zs, hz, pz, lz, g3⟩
            obtain ⟨p, hpp, ty, rfl, hty⟩ := paired_at pw i y hy
            have hi3 : i < ws.length := (List.getElem?_eq_some_iff.mp hy).1
            refine ⟨rfl, ?_⟩
            refine ⟨_, rfl, ty, _, 1, .int p.2, rfl, rfl, SqT.of (g3 _ _ hty), rfl, _, rfl, _, _, rfl, rfl, _, rfl, ?_⟩
            refine ite2 (fun z => ?_) (fun z => ?_)
            · refine ⟨_, rfl, zs, hz, by omega, zs ++ [.ref ty], upd_same, ?_, by rw [List.length_append]; exact Nat.succ_le_succ lz, same_mut g3 hD⟩
              rw [filter_one hpp, if_pos z]
              exact paired_snoc (paired_mono (fun _ _ w => w.mono (keep_lst hz).tups) pz) ⟨ty, rfl, (keep_lst hz).tups _ _ (g3 _ _ hty)⟩
            · refine ⟨zs, hz, ?_, by omega, g3⟩
              rw [filter_one hpp, if_neg z, List.append_nil]
              exact pz
          · rintro H21 ⟨zs, hz, pz, lz, g21⟩
            rw [lw, List.take_length, first] at pz
            refine ⟨_, rfl, prsD ps, prsD ps, dp_prs ⟨zs, hz, pz⟩, dp_prs (hpd20.same g21), shaped_prs _, shaped_prs _, _, rfl, ?_⟩
            rw [eqv_prs]
            refine iteN (nt (same_not _)) ?_
            -- the last ones
            refine ⟨_, rfl, pb, rfl, ⟨_, SqL.of (g21 _ _ hw)⟩, fun D hD => ?_⟩
            refine lc_list (K := K) (a := pb) (xs := ws) (fun i H3 => ∃ zs, H3 D = some (.lst zs) ∧ Paired (PrAt H3) zs (((bo.take i).filter fun p => decide ((bs.length : Int) ≤ p.1)).map fun p => (p.1 - (bs.length : Int), p.2 - (bs.length : Int))) ∧ zs.length ≤ i ∧ Same H21 H3) ⟨[], upd_same, .nil, Nat.zero_le _, same_new hD⟩ (fun i H3 _ ⟨_, _, _, _, g⟩ => SqL.of (g _ _ (g21 _ _ hw))) ?_ ?_
            · rintro i y H3 hy ⟨zs, hz, pz, lz, g3⟩
              obtain ⟨p, hpp, ty, rfl, hty⟩ := paired_at pw i y hy
              have hi3 : i < ws.length := (List.getElem?_eq_some_iff.mp hy).1
              have hty3 := g3 _ _ (g21 _ _ hty)
              refine ⟨ty, _, rfl, SqT.of hty3, rfl, _, _, rfl, _, _, rfl, rfl, rfl, ?_⟩
              refine ⟨_, rfl, _, rfl, _, _, rfl, rfl, _, rfl, ?_⟩
              refine ite2 (fun z => ?_) (fun z => ?_)
              · refine ⟨_, rfl, _, rfl, _, _, rfl, rfl, _, rfl, _, rfl, _, _, rfl, rfl, l2, fun t ht => ?_⟩
                have gt := same_new (o := .tup [V.int (p.1 - (bs.length : Int)), V.int (p.2 - (bs.length : Int))]) ht
                have hzt := gt _ _ hz
                refine ⟨zs, hzt, by omega, zs ++ [.ref t], upd_same, ?_, by rw [List.length_append]; exact Nat.succ_le_succ lz, same_mut (g3.trans gt) hD⟩
                rw [filter_one hpp, if_pos z, List.map_append]
                exact paired_snoc (paired_mono (fun _ _ w => (w.mono (same_tups gt)).mono (keep_lst hzt).tups) pz) ⟨t, rfl, (keep_lst hzt).tups _ _ upd_same⟩
              · refine ⟨zs, hz, ?_, by omega, g3⟩
                rw [filter_one hpp, if_neg z, List.append_nil]
                exact pz
            · rintro H22 ⟨zs, hz, pz, lz, g22⟩
              rw [lw, List.take_length, last] at pz
              have g2022 := g21.trans g22
              refine ⟨_, rfl, r2, rfl, cs, hc20.mono (same_tups g2022), okc, by omega, fun pc H23 hn23 hp23 g23 => ?_⟩
              refine ⟨prsD _, prsD _, dp_prs (PrsAt.same g23 ⟨zs, hz, pz⟩), dp_prs hp23, shaped_prs _, shaped_prs _, _, rfl, ?_⟩
              rw [eqv_prs]
              refine iteN (nt (same_not _)) ?_
              -- all
              have g2023 := g2022.trans g23
              obtain ⟨ys, hys, pys⟩ := hc20
              have lys : ys.length = cs.length := paired_len pys
              refine ⟨_, rfl, _, rfl, _, rfl, cat_tups (g2023 _ _ hxs) (g2023 _ _ hys) (by omega) fun rj H24 g24 h24 => ?_⟩
              refine ⟨rj, rfl, bs ++ cs, ⟨xs ++ ys, h24, paired_mono (fun _ _ z => (z.mono (same_tups g2023)).mono (same_tups g24)) (paired_app pxs pys)⟩, okj, by rw [List.length_append]; omega, fun pe H25 hn25 hp25 g25 => ?_⟩
              rw [hbo] at hp25
              have g2025 := (g2023.trans g24).trans g25
              refine ⟨pb, pe, rfl, bo, bo, PrsAt.same g2025 ⟨ws, hw, pw⟩, hp25, by omega, fun H26 g26 => ⟨_, rfl, ?_⟩⟩
              exact iteN (nt (same_not bo)) ⟨_, _, _, _, _, _, _, _, _, _, _, _, _, rfl, t20.same (g2025.trans g26)⟩
    · rintro σ H2 ⟨v2, v3, v4, v5, v6, v7, v8, v9, v10, v11, v12, v13, v14, rfl, t2⟩
      exact q H2
end
end K21
namespace K21
open PySem L2 Nm
theorem all_mk {l : PySem.W.OpenLaw} {w : World} {K : PySem.W.Frag} {h : Heap} {mg : Str → Option Value} {fa CHall f1 f2 f3 f4 f5 f6 f7 f8 f9 f10 f11 f12 f13 f14 f15 f16 f17 f18 f19 f20 f21 f22 f23 f24 f25 f26 f27 f28 : Addr} (X : K.In h) (G : h.Ns mainGlobals mg) (hfa : mg "law" = some (.ref fa))
    {od1 an1 od2 an2 od3 an3 od4 an4 od5 an5 od6 an6 od7 an7 od8 an8 od9 an9 od10 an10 od11 an11 od12 an12 od13 an13 od14 an14 od15 an15 od16 an16 od17 an17 od18 an18 od19 an19 od20 an20 od21 an21 od22 an22 od23 an23 od24 an24 od25 an25 od26 an26 od27 an27 od28 an28 : Option Addr} {sl1 sl2 sl3 sl4 sl5 sl6 sl7 sl8 sl9 sl10 sl11 sl12 sl13 sl14 sl15 sl16 sl17 sl18 sl19 sl20 sl21 sl22 sl23 sl24 sl25 sl26 sl27 sl28 : Array (Option Value)} {oc1 kV1 dc1 pm1 cd1 ct1 oc2 kV2 dc2 pm2 cd2 ct2 oc3 kV3 dc3 pm3 cd3 ct3 oc4 kV4 dc4 pm4 cd4 ct4 oc5 kV5 dc5 pm5 cd5 ct5 oc6 kV6 dc6 pm6 cd6 ct6 oc7 kV7 dc7 pm7 cd7 ct7 oc8 kV8 dc8 pm8 cd8 ct8 oc9 kV9 dc9 pm9 cd9 ct9 oc10 kV10 dc10 pm10 cd10 ct10 oc11 kV11 dc11 pm11 cd11 ct11 oc12 kV12 dc12 pm12 cd12 ct12 oc13 kV13 dc13 pm13 cd13 ct13 oc14 kV14 dc14 pm14 cd14 ct14 oc15 kV15 dc15 pm15 cd15 ct15 oc16 kV16 dc16 pm16 cd16 ct16 oc17 kV17 dc17 pm17 cd17 ct17 oc18 kV18 dc18 pm18 cd18 ct18 oc19 kV19 dc19 pm19 cd19 ct19 oc20 kV20 dc20 pm20 cd20 ct20 oc21 kV21 dc21 pm21 cd21 ct21 oc22 kV22 dc22 pm22 cd22 ct22 oc23 kV23 dc23 pm23 cd23 ct23 oc24 kV24 dc24 pm24 cd24 ct24 oc25 kV25 dc25 pm25 cd25 ct25 oc26 kV26 dc26 pm26 cd26 ct26 oc27 kV27 dc27 pm27 cd27 ct27 oc28 kV28 dc28 pm28 cd28 ct28 : Value} {tMOST_BEGUN tMOST_BOARDS : Tok}
    (a_Hall : PySem.W.nsIn K mainGlobals "Hall" = some (some (.ref CHall)))
    (a1 : PySem.W.nsIn K mainGlobals "is_integer" = some (some (.ref f1)))
    (l1 : K.lookup f1 = some ⟨oc1, od1, .func (PySem.W.fnOf "is_integer" "is_integer" (defArgs s_is_integer) (defBody s_is_integer) (defScope s_is_integer) .none kV1 dc1 pm1 an1 cd1 ct1), sl1⟩)
    (c1 : PySem.W.codeIn K cd1 "is_integer" = true)
    (k1 : PySem.W.keepIn K (.ref f1) = true)
    (a2 : PySem.W.nsIn K mainGlobals "is_within" = some (some (.ref f2)))
    (l2 : K.lookup f2 = some ⟨oc2, od2, .func (PySem.W.fnOf "is_within" "is_within" (defArgs s_is_within) (defBody s_is_within) (defScope s_is_within) .none kV2 dc2 pm2 an2 cd2 ct2), sl2⟩)
    (c2 : PySem.W.codeIn K cd2 "is_within" = true)
    (k2 : PySem.W.keepIn K (.ref f2) = true)
    (a3 : PySem.W.nsIn K mainGlobals "is_side" = some (some (.ref f3)))
    (l3 : K.lookup f3 = some ⟨oc3, od3, .func (PySem.W.fnOf "is_side" "is_side" (defArgs s_is_side) (defBody s_is_side) (defScope s_is_side) .none kV3 dc3 pm3 an3 cd3 ct3), sl3⟩)
    (c3 : PySem.W.codeIn K cd3 "is_side" = true)
    (k3 : PySem.W.keepIn K (.ref f3) = true)
    (a4 : PySem.W.nsIn K mainGlobals "is_lettered" = some (some (.ref f4)))
    (l4 : K.lookup f4 = some ⟨oc4, od4, .func (PySem.W.fnOf "is_lettered" "is_lettered" (defArgs s_is_lettered) (defBody s_is_lettered) (defScope s_is_lettered) .none kV4 dc4 pm4 an4 cd4 ct4), sl4⟩)
    (c4 : PySem.W.codeIn K cd4 "is_lettered" = true)
    (k4 : PySem.W.keepIn K (.ref f4) = true)
    (a5 : PySem.W.nsIn K mainGlobals "is_name" = some (some (.ref f5)))
    (l5 : K.lookup f5 = some ⟨oc5, od5, .func (PySem.W.fnOf "is_name" "is_name" (defArgs s_is_name) (defBody s_is_name) (defScope s_is_name) .none kV5 dc5 pm5 an5 cd5 ct5), sl5⟩)
    (c5 : PySem.W.codeIn K cd5 "is_name" = true)
    (k5 : PySem.W.keepIn K (.ref f5) = true)
    (a6 : PySem.W.nsIn K mainGlobals "is_word" = some (some (.ref f6)))
    (l6 : K.lookup f6 = some ⟨oc6, od6, .func (PySem.W.fnOf "is_word" "is_word" (defArgs s_is_word) (defBody s_is_word) (defScope s_is_word) .none kV6 dc6 pm6 an6 cd6 ct6), sl6⟩)
    (c6 : PySem.W.codeIn K cd6 "is_word" = true)
    (k6 : PySem.W.keepIn K (.ref f6) = true)
    (a7 : PySem.W.nsIn K mainGlobals "is_words" = some (some (.ref f7)))
    (l7 : K.lookup f7 = some ⟨oc7, od7, .func (PySem.W.fnOf "is_words" "is_words" (defArgs s_is_words) (defBody s_is_words) (defScope s_is_words) .none kV7 dc7 pm7 an7 cd7 ct7), sl7⟩)
    (c7 : PySem.W.codeIn K cd7 "is_words" = true)
    (k7 : PySem.W.keepIn K (.ref f7) = true)
    (a8 : PySem.W.nsIn K mainGlobals "is_board" = some (some (.ref f8)))
    (l8 : K.lookup f8 = some ⟨oc8, od8, .func (PySem.W.fnOf "is_board" "is_board" (defArgs s_is_board) (defBody s_is_board) (defScope s_is_board) .none kV8 dc8 pm8 an8 cd8 ct8), sl8⟩)
    (c8 : PySem.W.codeIn K cd8 "is_board" = true)
    (k8 : PySem.W.keepIn K (.ref f8) = true)
    (a9 : PySem.W.nsIn K mainGlobals "names_of" = some (some (.ref f9)))
    (l9 : K.lookup f9 = some ⟨oc9, od9, .func (PySem.W.fnOf "names_of" "names_of" (defArgs s_names_of) (defBody s_names_of) (defScope s_names_of) .none kV9 dc9 pm9 an9 cd9 ct9), sl9⟩)
    (c9 : PySem.W.codeIn K cd9 "names_of" = true)
    (k9 : PySem.W.keepIn K (.ref f9) = true)
    (a10 : PySem.W.findIn K (.ref CHall) "__init__" = some (some (.ref f10)))
    (i10 : PySem.W.isFn K (.ref f10) = true)
    (l10 : K.lookup f10 = some ⟨oc10, od10, .func (PySem.W.fnOf "__init__" "Hall.__init__" (defArgs s_Hall___init__) (defBody s_Hall___init__) (defScope s_Hall___init__) .none kV10 dc10 pm10 an10 cd10 ct10), sl10⟩)
    (c10 : PySem.W.codeIn K cd10 "Hall.__init__" = true)
    (k10 : PySem.W.keepIn K (.ref f10) = true)
    (a11 : PySem.W.nsIn K mainGlobals "_law_tape" = some (some (.ref f11)))
    (l11 : K.lookup f11 = some ⟨oc11, od11, .func (PySem.W.fnOf "_law_tape" "_law_tape" (defArgs s__law_tape) (defBody s__law_tape) (defScope s__law_tape) .none kV11 dc11 pm11 an11 cd11 ct11), sl11⟩)
    (c11 : PySem.W.codeIn K cd11 "_law_tape" = true)
    (k11 : PySem.W.keepIn K (.ref f11) = true)
    (a12 : PySem.W.nsIn K mainGlobals "_law_pick" = some (some (.ref f12)))
    (l12 : K.lookup f12 = some ⟨oc12, od12, .func (PySem.W.fnOf "_law_pick" "_law_pick" (defArgs s__law_pick) (defBody s__law_pick) (defScope s__law_pick) .none kV12 dc12 pm12 an12 cd12 ct12), sl12⟩)
    (c12 : PySem.W.codeIn K cd12 "_law_pick" = true)
    (k12 : PySem.W.keepIn K (.ref f12) = true)
    (a13 : PySem.W.nsIn K mainGlobals "are_pair" = some (some (.ref f13)))
    (l13 : K.lookup f13 = some ⟨oc13, od13, .func (PySem.W.fnOf "are_pair" "are_pair" (defArgs s_are_pair) (defBody s_are_pair) (defScope s_are_pair) .none kV13 dc13 pm13 an13 cd13 ct13), sl13⟩)
    (c13 : PySem.W.codeIn K cd13 "are_pair" = true)
    (k13 : PySem.W.keepIn K (.ref f13) = true)
    (a14 : PySem.W.nsIn K mainGlobals "hall_of" = some (some (.ref f14)))
    (l14 : K.lookup f14 = some ⟨oc14, od14, .func (PySem.W.fnOf "hall_of" "hall_of" (defArgs s_hall_of) (defBody s_hall_of) (defScope s_hall_of) .none kV14 dc14 pm14 an14 cd14 ct14), sl14⟩)
    (c14 : PySem.W.codeIn K cd14 "hall_of" = true)
    (k14 : PySem.W.keepIn K (.ref f14) = true)
    (a15 : PySem.W.nsIn K mainGlobals "turned" = some (some (.ref f15)))
    (l15 : K.lookup f15 = some ⟨oc15, od15, .func (PySem.W.fnOf "turned" "turned" (defArgs s_turned) (defBody s_turned) (defScope s_turned) .none kV15 dc15 pm15 an15 cd15 ct15), sl15⟩)
    (c15 : PySem.W.codeIn K cd15 "turned" = true)
    (k15 : PySem.W.keepIn K (.ref f15) = true)
    (a16 : PySem.W.nsIn K mainGlobals "joined" = some (some (.ref f16)))
    (l16 : K.lookup f16 = some ⟨oc16, od16, .func (PySem.W.fnOf "joined" "joined" (defArgs s_joined) (defBody s_joined) (defScope s_joined) .none kV16 dc16 pm16 an16 cd16 ct16), sl16⟩)
    (c16 : PySem.W.codeIn K cd16 "joined" = true)
    (k16 : PySem.W.keepIn K (.ref f16) = true)
    (a17 : PySem.W.nsIn K mainGlobals "pairs_of" = some (some (.ref f17)))
    (l17 : K.lookup f17 = some ⟨oc17, od17, .func (PySem.W.fnOf "pairs_of" "pairs_of" (defArgs s_pairs_of) (defBody s_pairs_of) (defScope s_pairs_of) .none kV17 dc17 pm17 an17 cd17 ct17), sl17⟩)
    (c17 : PySem.W.codeIn K cd17 "pairs_of" = true)
    (k17 : PySem.W.keepIn K (.ref f17) = true)
    (a18 : PySem.W.nsIn K mainGlobals "pairs" = some (some (.ref f18)))
    (l18 : K.lookup f18 = some ⟨oc18, od18, .func (PySem.W.fnOf "pairs" "pairs" (defArgs s_pairs) (defBody s_pairs) (defScope s_pairs) .none kV18 dc18 pm18 an18 cd18 ct18), sl18⟩)
    (c18 : PySem.W.codeIn K cd18 "pairs" = true)
    (k18 : PySem.W.keepIn K (.ref f18) = true)
    (a19 : PySem.W.nsIn K mainGlobals "_law_is" = some (some (.ref f19)))
    (l19 : K.lookup f19 = some ⟨oc19, od19, .func (PySem.W.fnOf "_law_is" "_law_is" (defArgs s__law_is) (defBody s__law_is) (defScope s__law_is) .none kV19 dc19 pm19 an19 cd19 ct19), sl19⟩)
    (c19 : PySem.W.codeIn K cd19 "_law_is" = true)
    (k19 : PySem.W.keepIn K (.ref f19) = true)
    (a20 : PySem.W.nsIn K mainGlobals "_law_some" = some (some (.ref f20)))
    (l20 : K.lookup f20 = some ⟨oc20, od20, .func (PySem.W.fnOf "_law_some" "_law_some" (defArgs s__law_some) (defBody s__law_some) (defScope s__law_some) .none kV20 dc20 pm20 an20 cd20 ct20), sl20⟩)
    (c20 : PySem.W.codeIn K cd20 "_law_some" = true)
    (k20 : PySem.W.keepIn K (.ref f20) = true)
    (a21 : PySem.W.nsIn K mainGlobals "_law_word" = some (some (.ref f21)))
    (l21 : K.lookup f21 = some ⟨oc21, od21, .func (PySem.W.fnOf "_law_word" "_law_word" (defArgs s__law_word) (defBody s__law_word) (defScope s__law_word) .none kV21 dc21 pm21 an21 cd21 ct21), sl21⟩)
    (c21 : PySem.W.codeIn K cd21 "_law_word" = true)
    (k21 : PySem.W.keepIn K (.ref f21) = true)
    (a22 : PySem.W.nsIn K mainGlobals "_law_line" = some (some (.ref f22)))
    (l22 : K.lookup f22 = some ⟨oc22, od22, .func (PySem.W.fnOf "_law_line" "_law_line" (defArgs s__law_line) (defBody s__law_line) (defScope s__law_line) .none kV22 dc22 pm22 an22 cd22 ct22), sl22⟩)
    (c22 : PySem.W.codeIn K cd22 "_law_line" = true)
    (k22 : PySem.W.keepIn K (.ref f22) = true)
    (a23 : PySem.W.nsIn K mainGlobals "_law_boards" = some (some (.ref f23)))
    (l23 : K.lookup f23 = some ⟨oc23, od23, .func (PySem.W.fnOf "_law_boards" "_law_boards" (defArgs s__law_boards) (defBody s__law_boards) (defScope s__law_boards) .none kV23 dc23 pm23 an23 cd23 ct23), sl23⟩)
    (c23 : PySem.W.codeIn K cd23 "_law_boards" = true)
    (k23 : PySem.W.keepIn K (.ref f23) = true)
    (a24 : PySem.W.nsIn K mainGlobals "_law_lengthened" = some (some (.ref f24)))
    (l24 : K.lookup f24 = some ⟨oc24, od24, .func (PySem.W.fnOf "_law_lengthened" "_law_lengthened" (defArgs s__law_lengthened) (defBody s__law_lengthened) (defScope s__law_lengthened) .none kV24 dc24 pm24 an24 cd24 ct24), sl24⟩)
    (c24 : PySem.W.codeIn K cd24 "_law_lengthened" = true)
    (k24 : PySem.W.keepIn K (.ref f24) = true)
    (a25 : PySem.W.nsIn K mainGlobals "_law_are_pair" = some (some (.ref f25)))
    (l25 : K.lookup f25 = some ⟨oc25, od25, .func (PySem.W.fnOf "_law_are_pair" "_law_are_pair" (defArgs s__law_are_pair) (defBody s__law_are_pair) (defScope s__law_are_pair) .none kV25 dc25 pm25 an25 cd25 ct25), sl25⟩)
    (c25 : PySem.W.codeIn K cd25 "_law_are_pair" = true)
    (k25 : PySem.W.keepIn K (.ref f25) = true)
    (a26 : PySem.W.nsIn K mainGlobals "_law_pairs" = some (some (.ref f26)))
    (l26 : K.lookup f26 = some ⟨oc26, od26, .func (PySem.W.fnOf "_law_pairs" "_law_pairs" (defArgs s__law_pairs) (defBody s__law_pairs) (defScope s__law_pairs) .none kV26 dc26 pm26 an26 cd26 ct26), sl26⟩)
    (c26 : PySem.W.codeIn K cd26 "_law_pairs" = true)
    (k26 : PySem.W.keepIn K (.ref f26) = true)
    (a27 : PySem.W.nsIn K mainGlobals "_law_apart" = some (some (.ref f27)))
    (l27 : K.lookup f27 = some ⟨oc27, od27, .func (PySem.W.fnOf "_law_apart" "_law_apart" (defArgs s__law_apart) (defBody s__law_apart) (defScope s__law_apart) .none kV27 dc27 pm27 an27 cd27 ct27), sl27⟩)
    (c27 : PySem.W.codeIn K cd27 "_law_apart" = true)
    (k27 : PySem.W.keepIn K (.ref f27) = true)
    (a28 : PySem.W.nsIn K mainGlobals "law" = some (some (.ref f28)))
    (l28 : K.lookup f28 = some ⟨oc28, od28, .func (PySem.W.fnOf "law" "law" (defArgs s_law) (defBody s_law) (defScope s_law) .none kV28 dc28 pm28 an28 cd28 ct28), sl28⟩)
    (c28 : PySem.W.codeIn K cd28 "law" = true)
    (k28 : PySem.W.keepIn K (.ref f28) = true)
    (pg_Hall : PySem.W.plainGet K CHall Str.empty = true)
    (hd_Hall : PySem.W.hasDictIn K CHall = true)
    (po_Hall : PySem.W.plainOver K CHall = true)
    (sa_Hall : PySem.W.findIn K (.ref CHall) "__setattr__" = some (some (.builtin "object.__setattr__")))
    (mk_Hall : PySem.W.makesIn K CHall = true)
    (kc_Hall : PySem.W.keepIn K (.ref CHall) = true)
    (n_Hall_boards : PySem.W.findIn K (.ref CHall) "boards" = some none)
    (n_Hall_names : PySem.W.findIn K (.ref CHall) "names" = some none)
    (z_all : PySem.W.nsIn K mainGlobals "all" = some none)
    (z_any : PySem.W.nsIn K mainGlobals "any" = some none)
    (z_bool : PySem.W.nsIn K mainGlobals "bool" = some none)
    (z_enumerate : PySem.W.nsIn K mainGlobals "enumerate" = some none)
    (z_int : PySem.W.nsIn K mainGlobals "int" = some none)
    (z_isinstance : PySem.W.nsIn K mainGlobals "isinstance" = some none)
    (z_len : PySem.W.nsIn K mainGlobals "len" = some none)
    (z_list : PySem.W.nsIn K mainGlobals "list" = some none)
    (z_max : PySem.W.nsIn K mainGlobals "max" = some none)
    (z_range : PySem.W.nsIn K mainGlobals "range" = some none)
    (z_sorted : PySem.W.nsIn K mainGlobals "sorted" = some none)
    (z_str : PySem.W.nsIn K mainGlobals "str" = some none)
    (z_tuple : PySem.W.nsIn K mainGlobals "tuple" = some none)
    (z_zip : PySem.W.nsIn K mainGlobals "zip" = some none)
    (g_MOST_BEGUN : PySem.W.nsIn K mainGlobals "MOST_BEGUN" = some (some (.int 20 tMOST_BEGUN)))
    (g_MOST_BOARDS : PySem.W.nsIn K mainGlobals "MOST_BOARDS" = some (some (.int 12 tMOST_BOARDS))) :
    ∃ fd : FuncData, (∀ (s : Shared) (v : Value), BindsTo s fd ⟨[v], []⟩ [("script", v)]) ∧ ∀ base : Heap, K.In base → base.Ns mainGlobals mg → FnOk l.prog w K mg base CX0 16 fa fd ["script"] (sp_law K) := by
  have e := hfa.symm.trans (PySem.W.mg_of X G a28)
  cases e
  have F1 := fun_mk (st := s_is_integer) l1 c1 k1
  have F2 := fun_mk (st := s_is_within) l2 c2 k2
  have F3 := fun_mk (st := s_is_side) l3 c3 k3
  have F4 := fun_mk (st := s_is_lettered) l4 c4 k4
  have F5 := fun_mk (st := s_is_name) l5 c5 k5
  have F6 := fun_mk (st := s_is_word) l6 c6 k6
  have F7 := fun_mk (st := s_is_words) l7 c7 k7
  have F8 := fun_mk (st := s_is_board) l8 c8 k8
  have F9 := fun_mk (st := s_names_of) l9 c9 k9
  have F10 := fun_mk (st := s_Hall___init__) l10 c10 k10
  have F11 := fun_mk (st := s__law_tape) l11 c11 k11
  have F12 := fun_mk (st := s__law_pick) l12 c12 k12
  have F13 := fun_mk (st := s_are_pair) l13 c13 k13
  have F14 := fun_mk (st := s_hall_of) l14 c14 k14
  have F15 := fun_mk (st := s_turned) l15 c15 k15
  have F16 := fun_mk (st := s_joined) l16 c16 k16
  have F17 := fun_mk (st := s_pairs_of) l17 c17 k17
  have F18 := fun_mk (st := s_pairs) l18 c18 k18
  have F19 := fun_mk (st := s__law_is) l19 c19 k19
  have F20 := fun_mk (st := s__law_some) l20 c20 k20
  have F21 := fun_mk (st := s__law_word) l21 c21 k21
  have F22 := fun_mk (st := s__law_line) l22 c22 k22
  have F23 := fun_mk (st := s__law_boards) l23 c23 k23
  have F24 := fun_mk (st := s__law_lengthened) l24 c24 k24
  have F25 := fun_mk (st := s__law_are_pair) l25 c25 k25
  have F26 := fun_mk (st := s__law_pairs) l26 c26 k26
  have F27 := fun_mk (st := s__law_apart) l27 c27 k27
  have F28 := fun_mk (st := s_law) l28 c28 k28
  have T : Txt K mg := ⟨⟨_, _, F1, PySem.W.mg_of X G a1⟩,
    ⟨_, _, F2, PySem.W.mg_of X G a2⟩,
    ⟨_, _, F3, PySem.W.mg_of X G a3⟩,
    ⟨_, _, F4, PySem.W.mg_of X G a4⟩,
    ⟨_, _, F5, PySem.W.mg_of X G a5⟩,
    ⟨_, _, F6, PySem.W.mg_of X G a6⟩,
    ⟨_, _, F7, PySem.W.mg_of X G a7⟩,
    ⟨_, _, F8, PySem.W.mg_of X G a8⟩,
    ⟨_, _, F9, PySem.W.mg_of X G a9⟩,
    ⟨_, _, F11, PySem.W.mg_of X G a11⟩,
    ⟨_, _, F12, PySem.W.mg_of X G a12⟩,
    ⟨_, _, F13, PySem.W.mg_of X G a13⟩,
    ⟨_, _, F14, PySem.W.mg_of X G a14⟩,
    ⟨_, _, F15, PySem.W.mg_of X G a15⟩,
    ⟨_, _, F16, PySem.W.mg_of X G a16⟩,
    ⟨_, _, F17, PySem.W.mg_of X G a17⟩,
    ⟨_, _, F18, PySem.W.mg_of X G a18⟩,
    ⟨_, _, F19, PySem.W.mg_of X G a19⟩,
    ⟨_, _, F20, PySem.W.mg_of X G a20⟩,
    ⟨_, _, F21, PySem.W.mg_of X G a21⟩,
    ⟨_, _, F22, PySem.W.mg_of X G a22⟩,
    ⟨_, _, F23, PySem.W.mg_of X G a23⟩,
    ⟨_, _, F24, PySem.W.mg_of X G a24⟩,
    ⟨_, _, F25, PySem.W.mg_of X G a25⟩,
    ⟨_, _, F26, PySem.W.mg_of X G a26⟩,
    ⟨_, _, F27, PySem.W.mg_of X G a27⟩,
    ⟨_, _, F28, PySem.W.mg_of X G a28⟩,
    PySem.W.mg_none_of X G z_all,
    PySem.W.mg_none_of X G z_any,
    PySem.W.mg_none_of X G z_bool,
    PySem.W.mg_none_of X G z_enumerate,
    PySem.W.mg_none_of X G z_int,
    PySem.W.mg_none_of X G z_isinstance,
    PySem.W.mg_none_of X G z_len,
    PySem.W.mg_none_of X G z_list,
    PySem.W.mg_none_of X G z_max,
    PySem.W.mg_none_of X G z_range,
    PySem.W.mg_none_of X G z_sorted,
    PySem.W.mg_none_of X G z_str,
    PySem.W.mg_none_of X G z_tuple,
    PySem.W.mg_none_of X G z_zip,
    ⟨_, PySem.W.mg_of X G g_MOST_BEGUN, ⟨_, rfl⟩⟩,
    ⟨_, PySem.W.mg_of X G g_MOST_BOARDS, ⟨_, rfl⟩⟩,
    ⟨_, _, _, ⟨pg_Hall, hd_Hall, po_Hall, sa_Hall⟩, ⟨mk_Hall, a10, i10, kc_Hall⟩, PySem.W.mg_of X G a_Hall, F10, n_Hall_boards, n_Hall_names⟩⟩
  exact ⟨PySem.W.fnOf "law" "law" (defArgs s_law) (defBody s_law) (defScope s_law) .none kV28 dc28 pm28 an28 cd28 ct28, fun s v => .of_eq rfl, fun base _ _ => ok_law F28 T⟩
theorem walk {l : PySem.W.OpenLaw} {q : Program} {loose : List Str} {XP : (Str → Option Value) → Heap → Prop} {YP : World → Heap → Prop} {d : DefRec} {K : Params → PySem.W.Frag} (hn : l.most = some 63) (hdf : d.params.defaults = [])
    (hY : ∀ (w : World) (h : Heap), YP w h → (K w.params).In h)
    (F : ∀ (w : World) (mg : Str → Option Value) (fa : Addr) (h : Heap), (K w.params).In h → h.Ns mainGlobals mg → mg d.name = some (.ref fa) →
      ∃ fd : FuncData, (∀ (s : Shared) (u : Value), BindsTo s fd ⟨[u], []⟩ [("script", u)]) ∧ ∀ base : Heap, (K w.params).In base → base.Ns mainGlobals mg → FnOk l.prog w (K w.params) mg base CX0 16 fa fd ["script"] (sp_law (K w.params))) :
    PySem.W.WalkO q loose XP YP l.row.toRowW d [] (fun f vs => PySem.call f vs) :=
  L2.walk_of (n := 63) (k := 16) (x := "script") (CX := fun _ => CX0) (sp := fun w => sp_law (K w.params)) hn (by decide) hdf ⟨rfl, by decide, by decide⟩ hY F (fun _ _ a ns hl _ hS => ⟨a, ns, rfl, hS, fun _ => rfl⟩) fun _ _ _ _ _ z => z
end K21
open PySem PySem.W PyProof.Rows
set_option maxRecDepth 100000 in
set_option maxHeartbeats 0 in
theorem PySem.Challenge.cw_untoldgames_k21_whole_pairs_of_boards_holds : PySem.Challenge.rw_untoldgames_k21_whole_pairs_of_boards.Holds := by
  w_on; o_law; k_head; (case hw => w_witness2)
  k_fill
  refine K21.walk (l := PySem.Challenge.rw_untoldgames_k21_whole_pairs_of_boards) rfl rfl (fun w h Y => PySem.W.kIn_of Y) ?F
  case F =>
    intro w mg fa h KX G hmg
    refine' K21.all_mk KX G hmg ?a_Hall ?a1 ?l1 ?c1 ?k1 ?a2 ?l2 ?c2 ?k2 ?a3 ?l3 ?c3 ?k3 ?a4 ?l4 ?c4 ?k4 ?a5 ?l5 ?c5 ?k5 ?a6 ?l6 ?c6 ?k6 ?a7 ?l7 ?c7 ?k7 ?a8 ?l8 ?c8 ?k8 ?a9 ?l9 ?c9 ?k9 ?a10 ?i10 ?l10 ?c10 ?k10 ?a11 ?l11 ?c11 ?k11 ?a12 ?l12 ?c12 ?k12 ?a13 ?l13 ?c13 ?k13 ?a14 ?l14 ?c14 ?k14 ?a15 ?l15 ?c15 ?k15 ?a16 ?l16 ?c16 ?k16 ?a17 ?l17 ?c17 ?k17 ?a18 ?l18 ?c18 ?k18 ?a19 ?l19 ?c19 ?k19 ?a20 ?l20 ?c20 ?k20 ?a21 ?l21 ?c21 ?k21 ?a22 ?l22 ?c22 ?k22 ?a23 ?l23 ?c23 ?k23 ?a24 ?l24 ?c24 ?k24 ?a25 ?l25 ?c25 ?k25 ?a26 ?l26 ?c26 ?k26 ?a27 ?l27 ?c27 ?k27 ?a28 ?l28 ?c28 ?k28 ?pg_Hall ?hd_Hall ?po_Hall ?sa_Hall ?mk_Hall ?kc_Hall ?n_Hall_boards ?n_Hall_names ?z_all ?z_any ?z_bool ?z_enumerate ?z_int ?z_isinstance ?z_len ?z_list ?z_max ?z_range ?z_sorted ?z_str ?z_tuple ?z_zip ?g_MOST_BEGUN ?g_MOST_BOARDS
    (case a_Hall => k_is)
    (case a1 => k_is)
    (case l1 => k_is)
    (case c1 => k_is)
    (case k1 => k_is)
    (case a2 => k_is)
    (case l2 => k_is)
    (case c2 => k_is)
    (case k2 => k_is)
    (case a3 => k_is)
    (case l3 => k_is)
    (case c3 => k_is)
    (case k3 => k_is)
    (case a4 => k_is)
    (case l4 => k_is)
    (case c4 => k_is)
    (case k4 => k_is)
    (case a5 => k_is)
    (case l5 => k_is)
    (case c5 => k_is)
    (case k5 => k_is)
    (case a6 => k_is)
    (case l6 => k_is)
    (case c6 => k_is)
    (case k6 => k_is)
    (case a7 => k_is)
    (case l7 => k_is)
    (case c7 => k_is)
    (case k7 => k_is)
    (case a8 => k_is)
    (case l8 => k_is)
    (case c8 => k_is)
    (case k8 => k_is)
    (case a9 => k_is)
    (case l9 => k_is)
    (case c9 => k_is)
    (case k9 => k_is)
    (case a10 => k_is)
    (case i10 => k_is)
    (case l10 => k_is)
    (case c10 => k_is)
    (case k10 => k_is)
    (case a11 => k_is)
    (case l11 => k_is)
    (case c11 => k_is)
    (case k11 => k_is)
    (case a12 => k_is)
    (case l12 => k_is)
    (case c12 => k_is)
    (case k12 => k_is)
    (case a13 => k_is)
    (case l13 => k_is)
    (case c13 => k_is)
    (case k13 => k_is)
    (case a14 => k_is)
    (case l14 => k_is)
    (case c14 => k_is)
    (case k14 => k_is)
    (case a15 => k_is)
    (case l15 => k_is)
    (case c15 => k_is)
    (case k15 => k_is)
    (case a16 => k_is)
    (case l16 => k_is)
    (case c16 => k_is)
    (case k16 => k_is)
    (case a17 => k_is)
    (case l17 => k_is)
    (case c17 => k_is)
    (case k17 => k_is)
    (case a18 => k_is)
    (case l18 => k_is)
    (case c18 => k_is)
    (case k18 => k_is)
    (case a19 => k_is)
    (case l19 => k_is)
    (case c19 => k_is)
    (case k19 => k_is)
    (case a20 => k_is)
    (case l20 => k_is)
    (case c20 => k_is)
    (case k20 => k_is)
    (case a21 => k_is)
    (case l21 => k_is)
    (case c21 => k_is)
    (case k21 => k_is)
    (case a22 => k_is)
    (case l22 => k_is)
    (case c22 => k_is)
    (case k22 => k_is)
    (case a23 => k_is)
    (case l23 => k_is)
    (case c23 => k_is)
    (case k23 => k_is)
    (case a24 => k_is)
    (case l24 => k_is)
    (case c24 => k_is)
    (case k24 => k_is)
    (case a25 => k_is)
    (case l25 => k_is)
    (case c25 => k_is)
    (case k25 => k_is)
    (case a26 => k_is)
    (case l26 => k_is)
    (case c26 => k_is)
    (case k26 => k_is)
    (case a27 => k_is)
    (case l27 => k_is)
    (case c27 => k_is)
    (case k27 => k_is)
    (case a28 => k_is)
    (case l28 => k_is)
    (case c28 => k_is)
    (case k28 => k_is)
    (case pg_Hall => k_is)
    (case hd_Hall => k_is)
    (case po_Hall => k_is)
    (case sa_Hall => k_is)
    (case mk_Hall => k_is)
    (case kc_Hall => k_is)
    (case n_Hall_boards => k_is)
    (case n_Hall_names => k_is)
    (case z_all => k_is)
    (case z_any => k_is)
    (case z_bool => k_is)
    (case z_enumerate => k_is)
    (case z_int => k_is)
    (case z_isinstance => k_is)
    (case z_len => k_is)
    (case z_list => k_is)
    (case z_max => k_is)
    (case z_range => k_is)
    (case z_sorted => k_is)
    (case z_str => k_is)
    (case z_tuple => k_is)
    (case z_zip => k_is)
    (case g_MOST_BEGUN => k_is)
    (case g_MOST_BOARDS => k_is)
#print axioms PySem.Challenge.cw_untoldgames_k21_whole_pairs_of_boards_holds
