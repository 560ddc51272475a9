import PyProof.Rows.All
import Wide.All
import OpenK.AllK
import Wide.FinOn
import HandS.ForMost
import HandS.SetBool
import PyProof.Rows.SortShellAny
import KE.GoesMore
import KE.GoesEnum
import HandS.Walk
import HandS.TupMul
import HandS.Codes
import HandS.IsInst
import HandS.Zip
import HandS.SortRule
import HandS.Deep
import KE.LtData
import HandS.TupAny
import HandS.ForExc
import HandS.ExcInit
import HandS.ExcOwn
import HandS.ExcField
import PyProof.Rows.StrMeet
import PyProof.Rows.SortKeyStr
import HandS.TupLe
import HandS.Conv
import HandS.Steps
import PySem.Challenge.RW_untoldgames_k11_halls_judged
set_option Elab.async false
set_option linter.all false
set_option maxRecDepth 100000
set_option maxHeartbeats 4000000
/-! Sets of texts: what stands there, a text more, a comprehension that makes one, sorted of it. -/
namespace Nm
open PySem PySem.Spec PyProof.Rows L2
section
variable {P : Program} {w : World} {A : Around} {E : Value → Shared → Prop} {s : Shared} {a : Addr} {o : Obj}
/-- the end of an addition: the set is stored, and laid out anew if it is too full -/
theorem tailG {g : Bool → Sem Unit} (hg : ∀ (b : Bool) (z : Shared) (U : Unit → Shared → Prop), U () z → wpAny (model P w) A (g b) U E z)
    {es fs : Array (Int × Value)} {ep : Nat} {t u : SetTable} {dm : Bool} {R : Option Bool → Shared → Prop}
    (ho : s.heap.get? a = some o) (hd : o.data = .set es ep t) (hb : fs.size < scanBound) (hf : u.fits fs.size = true) (hr : Ris u.place.toList)
    (hR : ∀ h' (es' : Array (Int × Value)) (ep' : Nat) (t' : SetTable), Heap.SameBut a s.heap h' → h'.get? a = some { o with data := .set es' ep' t' } → es'.toList.Perm fs.toList → t'.fits es'.size = true →
      Ris t'.place.toList → t'.led = u.led → R (some true) { s with heap := h' }) :
    wpAny (model P w) A (do
        storeSet a fs u
        if (!dm && u.tooFull) = true then do
            g (relayAll u fs (SetTable.grown fs.size)).2.2
            storeSet a (relayAll u fs (SetTable.grown fs.size)).1 (relayAll u fs (SetTable.grown fs.size)).2.1
            pure (some true)
          else pure (some true)) R E s := by
  have at1 := store_at (es' := fs) (t' := u) ho hd
  have same1 := Heap.SameBut.update s.heap a (Obj.putSet fs u)
  refine wpAny_bind (wpAny_storeSet_of ho hd ?_ (fits_of_scanBound hb))
  split
  · have perm := relayAll_perm u fs (SetTable.grown fs.size)
    have fit3 := relayAll_fits u fs (SetTable.grown fs.size)
    have ris3 := relayAll_ris u fs (SetTable.grown fs.size)
    have led3 := relayAll_led u fs (SetTable.grown fs.size)
    generalize relayAll u fs (SetTable.grown fs.size) = Z at perm fit3 ris3 led3 ⊢
    obtain ⟨gs, v, gave⟩ := Z
    dsimp only at perm fit3 ris3 led3 ⊢
    have size3 : gs.size = fs.size := by
      have q := perm.length_eq
      rwa [Array.length_toList, Array.length_toList] at q
    refine wpAny_bind (hg _ _ _ ?_)
    refine wpAny_bind (wpAny_storeSet_of at1 rfl ?_ (fits_of_scanBound (by rw [size3]; exact hb)))
    have at3 := store_at (es' := gs) (t' := v) at1 rfl
    exact wpAny_pure (hR _ gs _ v (same1.trans (Heap.SameBut.update _ a _)) at3 perm fit3 ris3 led3)
  · exact wpAny_pure (hR _ fs _ u same1 at1 (List.Perm.refl _) hf hr rfl)
/-- a key is added whose hash is known: it is there, or it comes in -/
theorem addG {κ : Type} [DecidableEq κ] {knd : PySem.KeyKind P w κ} {k : κ} {x : Value} {es : Array (Int × Value)} {ep : Nat} {t : SetTable} {Q : Bool → Shared → Prop}
    (hk : knd.is k x = true) (hx : x.scannable = true) (ho : s.heap.get? a = some o) (hd : o.data = .set es ep t) (hel : ElemsOf knd es.toList) (hb : es.size + 1 < scanBound) (hf : t.fits es.size = true) (hr : Ris t.place.toList)
    (old : (∃ e ∈ es.toList, knd.is k e.2 = true) → Q false s)
    (new : (∀ e ∈ es.toList, knd.is k e.2 = false) → ∀ h' (es' : Array (Int × Value)) (ep' : Nat) (t' : SetTable), Heap.SameBut a s.heap h' → h'.get? a = some { o with data := .set es' ep' t' } →
      es'.toList.Perm ((knd.hash k, x) :: es.toList) → t'.fits es'.size = true → Ris t'.place.toList → t'.led = t.led → Q true { s with heap := h' }) :
    wpAny (model P w) A (setAddHashed a x (knd.hash k)) Q E s := by
  unfold setAddHashed setAddHashedIn
  refine wpAny_holding (wpAny_bind (wpAny_setState_of ho hd hf ?_))
  dsimp only
  rw [byScan_of hx (Nat.lt_of_succ_lt hb) hel]
  simp only [↓reduceIte]
  unfold setAddByScan
  refine wpAny_bind (wpAny_bind (wpAny_rule ?_))
  refine wpAny_bind (wpAny_setScan_of hk ho hd hf hel ?_)
  cases met : List.findIdx? (fun e => knd.is k e.2) es.toList with
  | some j =>
    dsimp only
    obtain ⟨hj, pj, _⟩ := List.findIdx?_eq_some_iff_getElem.mp met
    exact wpAny_pure (wpAny_pure (old ⟨_, List.getElem_mem hj, pj⟩))
  | none =>
    dsimp only
    have no : ∀ e ∈ es.toList, knd.is k e.2 = false := fun e he => List.findIdx?_eq_none_iff.mp met e he
    have gw : ∀ (b : Bool) {z : Shared} {U : Unit → Shared → Prop}, U () z → wpAny (model P w) A (match b with | true => rule "set.scan.the-table-gave-way" | false => pure ()) U E z := fun b z U q => by
      cases b
      · exact wpAny_pure q
      · exact wpAny_rule q
    have perm := layNew_perm t es (knd.hash k) x
    have fit1 := layNew_fits t es (knd.hash k) x
    have ris1 := layNew_ris t es (knd.hash k) x hr
    have led1 := layNew_led t es (knd.hash k) x
    generalize layNew t es (knd.hash k) x = Z at perm fit1 ris1 led1 ⊢
    obtain ⟨fs, u, dm, gave⟩ := Z
    dsimp only at perm fit1 ris1 led1 ⊢
    rw [Array.toList_push] at perm
    have pc : fs.toList.Perm ((knd.hash k, x) :: es.toList) := perm.trans (List.perm_append_singleton _ _)
    have size1 : fs.size < scanBound := by
      have q := pc.length_eq
      rw [List.length_cons, Array.length_toList, Array.length_toList] at q
      omega
    have fin : ∀ (u' : SetTable), u'.led = u.led → ∀ h' (es' : Array (Int × Value)) (ep' : Nat) (t' : SetTable), Heap.SameBut a s.heap h' → h'.get? a = some { o with data := .set es' ep' t' } → es'.toList.Perm fs.toList →
        t'.fits es'.size = true → Ris t'.place.toList → t'.led = u'.led → Q true { s with heap := h' } := fun u' e h' es' ep' t' sb g p f r l =>
      new no h' es' ep' t' sb g (p.trans pc) f r (l.trans (e.trans led1))
    refine wpAny_bind (gw _ ?_)
    split
    · refine wpAny_bind ?_
      rw [hashByValue_scannable 8 hx]
      refine wpAny_pure ?_
      refine tailG ?_ ho hd size1 ?_ ?_ ?_
      · intro b z U q
        cases b
        · exact wpAny_pure q
        · exact wpAny_rule q
      · first
          | exact fit1
          | (split <;> first | exact fit1 | exact SetTable.fits_plain_off fit1)
      · first
          | exact ris1
          | (split <;> exact ris1)
      · intro h' es' ep' t' sb g p f r l
        dsimp only
        refine wpAny_pure (fin _ ?_ h' es' ep' t' sb g p f r l)
        first
          | rfl
          | (split <;> rfl)
    · refine wpAny_bind (wpAny_pure ?_)
      simp only [↓reduceIte]
      refine tailG ?_ ho hd size1 fit1 ris1 ?_
      · intro b z U q
        cases b
        · exact wpAny_pure q
        · exact wpAny_rule q
      · intro h' es' ep' t' sb g p f r l
        dsimp only
        exact wpAny_pure (fin u rfl h' es' ep' t' sb g p f r l)
end
/-! ### a set of texts -/
def nm (e : Int × Value) : Str := match e.2 with | .str x _ => x | _ => Str.empty
def Tx (w : World) (e : Int × Value) : Prop := ∃ x t, e.2 = Value.str x t ∧ e.1 = hashStr w x
/-- the set at a has just the texts ks, each once -/
def Has (w : World) (h : Heap) (a : Addr) (ks : List Str) : Prop :=
  ∃ o es ep t, h.get? a = some o ∧ o.ExactSet ∧ o.data = .set es ep t ∧ (∀ e ∈ es.toList, Tx w e) ∧ (es.toList.map nm).Perm ks ∧ ks.Nodup ∧ ks.length < scanBound ∧ t.fits es.size = true ∧ Ris t.place.toList ∧
    (w.params.followText "set-order" = true ∨ t.led = true)
def plus (ks : List Str) (k : Str) : List Str := if k ∈ ks then ks else k :: ks
section
variable {P : Program} {w : World} {A : Around} {E : Value → Shared → Prop} {s : Shared} {a : Addr} {ks : List Str} {h h' : Heap}
theorem Has.at (R : Has w h a ks) (k : ∀ o, h.get? a = some o → h'.get? a = some o) : Has w h' a ks := by
  obtain ⟨o, es, ep, t, ho, r⟩ := R
  exact ⟨o, es, ep, t, k o ho, r⟩
theorem tx_elems {l : List (Int × Value)} (g : ∀ e ∈ l, Tx w e) : ElemsOf (strKind P w) l := fun e he => by
  obtain ⟨x, t, e1, e2⟩ := g e he
  refine ⟨⟨x, ?_, e2⟩, ?_⟩
  · rw [e1]
    exact strKind_is P w x t
  · rw [e1]
    rfl
theorem tx_is {e : Int × Value} (g : Tx w e) (k : Str) : (strKind P w).is k e.2 = true ↔ nm e = k := by
  obtain ⟨x, t, e1, _⟩ := g
  have n : nm e = x := by unfold nm; rw [e1]
  rw [n, e1]
  constructor
  · intro q
    exact (strKind P w).inj _ _ _ (strKind_is P w x t) q
  · intro q
    subst q
    exact strKind_is P w x t
theorem size_of {es : Array (Int × Value)} (p : (es.toList.map nm).Perm ks) : es.size = ks.length := by
  have q := p.length_eq
  rwa [List.length_map, Array.length_toList] at q
/-- one text more -/
theorem add_raw {k : Str} {tk : Tok} {Q : Value → Shared → Prop} (R : Has w s.heap a ks) (room : ks.length + 1 < scanBound)
    (hQ : ∀ h', Heap.SameBut a s.heap h' → Has w h' a (plus ks k) → Q .none { s with heap := h', toks := s.toks + 1 }) :
    wpAny (model P w) A (call (.builtin "set.add") [.ref a, .str k tk]) Q E s := by
  obtain ⟨o, es, ep, t, ho, hex, hd, g, pm, nd, hb, hf, hr, hl⟩ := R
  have hsz := size_of pm
  have hS : s.TypeIs (.ref a) "set" := ⟨o, ho, hex.1⟩
  refine wpAny_call_entry F.slot_set_add hS F.entry_set_add ?_ (F.args_set_add_2 _ _)
  unfold Builtin.«set.add» Builtin.Frozenset.oneOther
  simp only [List.isEmpty_nil, bind_assoc]
  unfold Builtin.Frozenset.addrOf setAdd
  refine wpAny_bind (wpAny_pure ?_)
  try dsimp only
  refine wpAny_bind (wpAny_pure ?_)
  try dsimp only
  refine wpAny_bind (wpAny_holding (wpAny_bind ((strKind P w).pyHash (strKind_is P w k tk) ?_)))
  have mem : (∃ e ∈ es.toList, (strKind P w).is k e.2 = true) ↔ k ∈ ks := by
    rw [← pm.mem_iff, List.mem_map]
    exact ⟨fun ⟨e, he, q⟩ => ⟨e, he, (tx_is (g e he) k).1 q⟩, fun ⟨e, he, q⟩ => ⟨e, he, (tx_is (g e he) k).2 q⟩⟩
  refine addG (knd := strKind P w) (s := { s with toks := s.toks + 1 }) (strKind_is P w k tk) rfl ho hd (tx_elems g) (by rw [hsz]; exact room) hf hr ?_ ?_
  · intro there
    have hk : k ∈ ks := mem.1 there
    have ek : plus ks k = ks := if_pos hk
    refine wpAny_pure ⟨_, rfl, hQ s.heap (Heap.SameBut.refl a s.heap) ?_⟩
    rw [ek]
    exact ⟨o, es, ep, t, ho, hex, hd, g, pm, nd, hb, hf, hr, hl⟩
  · intro no h' es' ep' t' sb ho' p f r l
    have hk : k ∉ ks := fun z => by
      obtain ⟨e, he, q⟩ := mem.2 z
      rw [no e he] at q
      cases q
    have ek : plus ks k = k :: ks := if_neg hk
    refine wpAny_pure ⟨_, rfl, hQ h' sb ?_⟩
    rw [ek]
    refine ⟨_, es', ep', t', ho', hex, rfl, fun e he => ?_, ?_, List.nodup_cons.mpr ⟨hk, nd⟩, room, f, r, hl.imp id fun z => l.trans z⟩
    · rcases List.mem_cons.mp (p.mem_iff.mp he) with z | z
      · rw [z]
        exact ⟨k, tk, rfl, rfl⟩
      · exact g e z
    · exact (p.map nm).trans (pm.cons k)
theorem has_fresh {h : Heap} (w : World) : Has w (h.push { cls := .type "set", dict := none, data := .set #[] 0 (.fresh 0 0 (!w.params.followText "set-order")) }) h.objs.size [] := by
  refine ⟨_, #[], 0, _, Heap.get?_push_size _ rfl, ⟨rfl, rfl, rfl⟩, rfl, (fun e he => by simp at he), List.Perm.refl _, List.nodup_nil, by decide, by rfl, List.Pairwise.nil, ?_⟩
  show _ ∨ (!w.params.followText "set-order") = true
  cases w.params.followText "set-order" with
  | false => exact .inr rfl
  | true => exact .inl rfl
end
/-- a set of texts as a tracked thing -/
def TxO (w : World) (a : Addr) (ks : List Str) : HO := .ext fun h => Has w h a ks
theorem txO_new {w : World} {P : Program} {H : Hp} {h : Heap} {a : Addr} {ks : List Str} (R : Has w h a ks) : ObjOk P w H h a (TxO w a ks) := by
  have ⟨o, _, _, _, ho, _⟩ := R
  exact ⟨R, ⟨o, ho⟩, fun h1 h2 p k => Has.at p k⟩
section
variable {X : Cx}
theorem txO_get {pins : List (Addr × Obj)} {σ : L2.St} {H : Hp} {s : Shared} {a : Addr} {ks : List Str} (I : Inv X pins σ H s) (ha : H a = some (TxO X.w a ks)) : Has X.w s.heap a ks := (I.hok a _ ha).1
theorem add_ok {pins : List (Addr × Obj)} {σ : L2.St} {H : Hp} {s : Shared} {E : Value → Shared → Prop} {D : Addr} {ks : List Str} {k : Str} {tk : Tok} {Q : Value → Shared → Prop} (I : Inv X pins σ H s) (hD : H D = some (TxO X.w D ks)) (room : ks.length + 1 < scanBound)
    (q : ∀ s', Inv X pins σ (upd H D (TxO X.w D (plus ks k))) s' → Q .none s') : wpAny (model X.prog X.w) X.A (call (.builtin "set.add") [.ref D, .str k tk]) Q E s := by
  refine add_raw (txO_get I hD) room fun h' sb new => ?_
  have there : ∃ u, h'.get? D = some u := by
    obtain ⟨o, _, _, _, ho, _⟩ := new
    exact ⟨o, ho⟩
  exact q _ (I.write (e := D) (t' := s.toks + 1) (by rw [hD]; trivial) (.inl rfl) (fun b u hb hu => (sb.2 b hb).trans hu) there (txO_new new))
/-! ### sorted of it -/
def rSortTx (w : World) : List V → Hp → VK → Prop := fun vs H Q => ∃ (a : Addr) (ks : List Str), vs = [V.ref a] ∧ H a = some (TxO w a ks) ∧ ks.length < 64 ∧
  ∀ (ys : List Str) (p : Addr), ys.Perm ks → sortedS ys = true → H p = none → Q (.ref p) (upd H p (.lst (ys.map V.str)))
end
/-- all of them, each once -/
def gathered (xs : List Str) : List Str := xs.foldl plus []
theorem plus_mem {ks : List Str} {k x : Str} : x ∈ plus ks k ↔ x = k ∨ x ∈ ks := by
  unfold plus
  by_cases h : k ∈ ks
  · rw [if_pos h]
    exact ⟨.inr, fun z => z.elim (fun e => e ▸ h) id⟩
  · rw [if_neg h, List.mem_cons]
theorem plus_nd {ks : List Str} {k : Str} (nd : ks.Nodup) : (plus ks k).Nodup := by
  unfold plus
  by_cases h : k ∈ ks
  · rw [if_pos h]
    exact nd
  · rw [if_neg h]
    exact List.nodup_cons.mpr ⟨h, nd⟩
theorem plus_len (ks : List Str) (k : Str) : (plus ks k).length ≤ ks.length + 1 := by
  unfold plus
  by_cases h : k ∈ ks
  · rw [if_pos h]
    exact Nat.le_succ _
  · rw [if_neg h]
    exact Nat.le_refl _
theorem fold_facts : ∀ (xs ks : List Str), ks.Nodup → (xs.foldl plus ks).Nodup ∧ (∀ x, x ∈ xs.foldl plus ks ↔ x ∈ xs ∨ x ∈ ks) ∧ (xs.foldl plus ks).length ≤ ks.length + xs.length
  | [], ks, nd => ⟨nd, fun x => by simp, by simp⟩
  | k :: xs, ks, nd => by
    obtain ⟨h1, h2, h3⟩ := fold_facts xs (plus ks k) (plus_nd nd)
    refine ⟨h1, fun x => ?_, ?_⟩
    · rw [List.foldl_cons, h2 x, plus_mem, List.mem_cons]
      constructor
      · rintro (h | h | h)
        · exact .inl (.inr h)
        · exact .inl (.inl h)
        · exact .inr h
      · rintro ((h | h) | h)
        · exact .inr (.inl h)
        · exact .inl h
        · exact .inr (.inr h)
    · rw [List.foldl_cons, List.length_cons]
      have := plus_len ks k
      omega
theorem gathered_facts (xs : List Str) : (gathered xs).Nodup ∧ (∀ x, x ∈ gathered xs ↔ x ∈ xs) ∧ (gathered xs).length ≤ xs.length := by
  obtain ⟨h1, h2, h3⟩ := fold_facts xs [] List.nodup_nil
  refine ⟨h1, fun x => ?_, ?_⟩
  · show x ∈ xs.foldl plus [] ↔ _
    rw [h2 x]
    simp
  · show (xs.foldl plus []).length ≤ xs.length
    simpa using h3
theorem gathered_snoc (xs : List Str) (k : Str) : gathered (xs ++ [k]) = plus (gathered xs) k := by
  unfold gathered
  rw [List.foldl_append]
  rfl
end Nm
namespace Nm
open PySem PySem.Spec PyProof.Rows L2
section
variable {P : Program} {w : World} {A : Around} {E : Value → Shared → Prop} {s : Shared} {a : Addr}
theorem strs_of : ∀ (l : List Value) (ks : List Str), Paired (fun v k => ∃ t, v = Value.str k t) l ks → StrsAre l ks
  | _, _, .nil => .nil
  | _, _, .cons h r => by
    obtain ⟨t, e⟩ := h
    subst e
    exact .cons _ t (strs_of _ _ r)
def tx (v : Value) : Str := match v with | .str x _ => x | _ => Str.empty
theorem strs_tx : ∀ (l : List Value), (∀ v ∈ l, ∃ x t, v = Value.str x t) → StrsAre l (l.map tx)
  | [], _ => .nil
  | v :: l, h => by
    obtain ⟨x, t, e⟩ := h v List.mem_cons_self
    subst e
    exact .cons x t (strs_tx l fun u hu => h u (List.mem_cons_of_mem _ hu))
theorem sorted_raw {ks : List Str} {Q : Value → Shared → Prop} (R : Has w s.heap a ks) (hh : A.handled = none)
    (hQ : ∀ s' p (out : Array Value) (c : Nat) (ys : List Str), (∀ b o, s.heap.get? b = some o → s'.heap.get? b = some o) → s'.gens = s.gens → s'.os = s.os → s.heap.objs.size ≤ p →
      s'.heap.get? p = some (seqObj "list" out c) → StrsAre out.toList ys → ys.Perm ks → sortedS ys = true → Q (.ref p) s') :
    wpAny (model P w) A (call (.builtin "sorted") [.ref a]) Q E s := by
  obtain ⟨o, es, ep, t, ho, hex, hd, g, pm, nd, hb, hf, hr, hl⟩ := R
  have hsz := size_of pm
  refine Calls.call_function_entry kind_sorted plain_sorted entry_sorted (args_sorted1 _) ?_
  unfold Builtin.«sorted»
  refine wpAny_bind (m := checkCount "sorted" 1 1 _) (wpAny_pure ?_)
  refine wpAny_bind (collect_set (A := A.in1) hh ⟨o, ho, hex.1, hd⟩ hf (by rw [hsz]; exact hb) hr hl fun s1 vs k1 hz g1 o1 q => ?_)
  have len : vs.length ≤ sizeLine := by
    have z : vs.length = es.size := by rw [q.length_eq, List.length_map, Array.length_toList]
    rw [z, hsz]
    exact fits_of_scanBound hb
  have hS : StrsAre vs (vs.map tx) := strs_tx vs fun v hv => by
    obtain ⟨e, he, z⟩ := List.mem_map.mp (q.mem_iff.mp hv)
    obtain ⟨x, tk, h1, _⟩ := g e he
    exact ⟨x, tk, by rw [← z]; exact h1⟩
  have pk : (vs.map tx).Perm ks := by
    have z := q.map tx
    rw [List.map_map] at z
    exact z.trans pm
  refine wpAny_bind (wpAny_newList ?_ len)
  have hoL : (s1.heap.push (seqObj "list" vs.toArray 0)).get? s1.heap.objs.size = some (seqObj "list" vs.toArray 0) := Heap.get?_push_size _ rfl
  refine wpAny_bind (wpAny_holding (wpAny_call_entry slot_list_sort ⟨_, hoL, rfl⟩ entry_list_sort
    (list_sort_treeKAny strKind_oneLt hoL hS.keysOf (fun v₁ v₂ rest e => keyKind_strs (by rw [← e]; exact hS)) len fun st' hp hs => ?_) (args_list_sort _)))
  obtain ⟨ys, b1, b2, b3⟩ := sorted_out_str hS hp hs
  obtain ⟨c, hc⟩ := sortedHeap_at (vs := vs) (out := (arrOf st').map (·.2)) hoL
  refine ⟨_, rfl, wpAny_pure ⟨_, rfl, hQ _ s1.heap.objs.size _ c ys (fun b u e => ?_) g1 o1 hz hc b1 (b2.trans pk) b3⟩⟩
  have z := k1 b u e
  have lt := Heap.lt_size z
  show (sortedHeap (s1.heap.push (seqObj "list" vs.toArray 0)) s1.heap.objs.size vs ((arrOf st').map (·.2))).get? b = some u
  rw [sortedHeap_old (Nat.ne_of_lt lt) (by rw [size_push']; exact Nat.lt_succ_of_lt lt)]
  exact Heap.get?_push_of_some _ z
end
section
variable {X : Cx}
theorem cr_sortTx (hc : X.calm = true) : CallR X (.builtin "sorted") (rSortTx X.w) := by
  intro pins s σ H vs us Q I r h
  obtain ⟨a, ks, rfl, ha, h64, q⟩ := h
  rw [Vals.ref1 r]
  refine sorted_raw (txO_get I ha) (I.ok.hd hc) fun s' p out c ys k g o hp hg hS pm so => ?_
  have len : (ys.map V.str).length ≤ sizeLine := by
    rw [List.length_map, pm.length_eq]
    exact small64 h64
  have hn : H p = none := I.hok.fresh hp
  have J : Inv X pins σ (upd H p (.lst (ys.map V.str))) { s with heap := s'.heap, gens := s'.gens, drawn := s'.drawn, toks := s'.toks } :=
    I.call (ch := []) (Un.laid k hp hn) (I.hok.laid k hp ⟨len, out.toList, c, vals_of_strs hS, hg⟩) (by rw [g]; exact I.bare) (fun _ z => nomatch z)
  have e : s' = { s with heap := s'.heap, gens := s'.gens, drawn := s'.drawn, toks := s'.toks } := by
    cases s'
    cases s
    cases o
    rfl
  rw [e]
  exact ⟨.ref p, _, J, rfl, q ys p pm so hn⟩
end
end Nm
namespace Nm
open PySem PySem.Spec PyProof.Rows L2
section
variable {X : Cx}
/-- what a set display by a walk asks, its element being a text -/
def tNm (w : World) (wi : TI) (g : TG) (te : TE) (vs : List Nat) : TE := fun σ H Q => wi σ H fun J H1 => ∀ D, H1 D = none → ∃ W : Nat → Nat → Hp → Prop,
  (∃ m, W 0 m (upd H1 D (TxO w D []))) ∧ ∀ i m H, W i m H → (J.stop i H ∧ Q (.ref D) H) ∨ (J.go i H ∧ ∃ Nx : Hp → Prop, (∀ H', Nx H' → ∃ m', m' < m ∧ W (i + 1) m' H') ∧
    ∀ x H', J.yld i H x H' → g x (wipe σ vs) H' fun σ2 H2 => wipe σ2 vs = wipe σ vs ∧ te σ2 H2 fun y H4 =>
      ∃ (c : Str) (ks : List Str), y = .str c ∧ H4 D = some (TxO w D ks) ∧ ks.length + 1 < scanBound ∧ Nx (upd H4 D (TxO w D (plus ks c))))
/-- a new set as the model makes it -/
abbrev setObj (X : Cx) : Obj := { cls := .type "set", dict := none, data := .set #[] 0 (.fresh 0 0 (!X.w.params.followText "set-order")) }
theorem pe_nm {elt tg iter : Expr} {scope : Scope} {own : List (PySem.Str × Nat)} {pos : Pos} {wi : TI} {g : TG} {te : TE} (hc : X.calm = true) (hN : X.N.Nodup) (hi : PI X tg iter wi) (ok : BlkOk X.N X.env.scope scope own)
    (hg : ∀ (s : Shared) (H : Hp) (C : Addr) (cl : List (PySem.Str × Addr)) (fp : List Addr), PG (X.blk s H scope (compEnvC scope cl C X.env) fp) tg g)
    (he : ∀ (s : Shared) (H : Hp) (C : Addr) (cl : List (PySem.Str × Addr)) (fp : List Addr), PE (X.blk s H scope (compEnvC scope cl C X.env) fp) elt te)
    (hs : ∀ x, foldedSetIterable iter X.env x = pure x := by intro _; rfl) : PE X (.SetComp elt [⟨tg, iter, [], 0⟩] scope pos) (tNm X.w wi g te (own.map (·.2))) := by
  refine ⟨fun pins s σ H Q I h => ?_⟩
  rw [PpSet.eval_SetComp]
  have closed : ∀ y ∈ scope.names, y.2 = .free → ∃ c, X.env.cells.lookup y.1 = some c := fun y hy e => (ok.free y hy e).elim (fun k => I.ok.has _ (.inl k)) fun k => I.ok.has _ (.inr k)
  refine wpAny_comprehension_free (use := none) rfl hs (closure_ok closed) ok.kind (fun y hy e => by rw [ok.uniq y hy, e]) (thn (hi.run pins s σ H _ I h) fun xv s1 hx => thn hx fun itv s2 h2 => ?_)
  obtain ⟨it, fp, tn, J, H2, e, I2, T, st2, f2, q⟩ := h2
  subst e
  refine PpSet.newSet_ok (newEnv_comp ?_)
  generalize hD : s2.heap.objs.size = D
  have hDn : H2 D = none := I2.hok.fresh (Nat.le_of_eq hD)
  obtain ⟨W, ⟨m0, w0⟩, turn⟩ := q D hDn
  generalize hs3 : ({ s2 with heap := s2.heap.push (setObj X) } : Shared) = s3
  have h3 : s3.heap = s2.heap.push (setObj X) := by rw [← hs3]
  generalize hH3 : upd H2 D (TxO X.w D []) = H3 at w0
  have I3 : Inv X pins σ H3 s3 := by
    rw [← hs3, ← hH3]
    refine I2.laid (t' := s2.toks) (fun b o e => Heap.get?_push_of_some _ e) (Nat.le_of_eq hD) ?_
    rw [← hD]
    exact txO_new (has_fresh X.w)
  have below : ∀ b ∈ fp, b < s2.heap.objs.size := fun b hb => by
    obtain ⟨o, e, _⟩ := T.obj _ _ st2 b hb
    exact Heap.lt_size e
  have f3 : ∀ b ∈ fp, FpOk X pins H3 b ∧ b < s3.heap.objs.size := fun b hb => by
    have lt := below b hb
    have ne : b ≠ D := by rw [← hD]; exact Nat.ne_of_lt lt
    refine ⟨⟨?_, (f2 b hb).2⟩, by rw [h3, Heap.size_push]; exact Nat.lt_succ_of_lt lt⟩
    rw [← hH3, upd_ne ne]
    exact (f2 b hb).1
  have st3 : tn 0 s3.heap := T.keep _ _ _ st2 fun b _ o e => by rw [h3]; exact Heap.get?_push_of_some _ e
  have I4 := block_start I3 ok hN f3
  generalize hcl : cellsFrom (s3.heap.objs.size + 1) scope.names (cloFrom X.env.cells scope.names []) = cl at I4
  have pg := hg s3 H3 s3.heap.objs.size cl fp
  have pe := he s3 H3 s3.heap.objs.size cl fp
  have goal : codeAny (model X.prog X.w) X.A (.compStart (.SetComp elt [⟨tg, iter, [], 0⟩] scope pos) 0 (.ref it) (.ref D) (compEnvC scope cl s3.heap.objs.size X.env))
      (compPost (model X.prog X.w) X.A X.xe none (EP X pins σ Q) (.ref D) s3.heap.objs.size) { s3 with heap := pushCells (s3.heap.push { cls := .type "dict", data := .dict #[] }) scope.names } := by
    have free3 : ∀ b ∈ fp, H3 b = none := fun b hb => (f3 b hb).1.1
    generalize hce : compEnvC scope cl s3.heap.objs.size X.env = ce at I4 pg pe ⊢
    have locals : ce.locals = s3.heap.objs.size := by subst hce; rfl
    generalize hs4 : ({ s3 with heap := pushCells (s3.heap.push { cls := .type "dict", data := .dict #[] }) scope.names } : Shared) = s4 at I4 ⊢
    have st4 : tn 0 s4.heap := T.keep _ _ _ st3 fun b _ o e => by rw [← hs4]; exact pushCells_keeps _ _ _ _ (Heap.get?_push_of_some _ e)
    have stat : ∀ {σ' : L2.St} {H' : Hp} {s' : Shared}, Inv (X.blk s3 H3 scope ce fp) [] σ' H' s' → (∀ b ∈ fp, H' b = none) → ∀ b ∈ fp, FpOk (X.blk s3 H3 scope ce fp) [] H' b := fun {σ' H' s'} I' hn b hb =>
      ⟨hn b hb, (I'.ok.exf b hb).1, I'.ok.exfs b hb, .inl hb, fun x c e => (I'.ok.exf b hb).2 x c e, fun p hp => absurd (show p ∈ ([] : List (Addr × Obj)) ++ [] from hp) (by simp)⟩
    have loop : codeAny (model X.prog X.w) X.A (.compLoop (.SetComp elt [⟨tg, iter, [], 0⟩] scope pos) 0 (.ref it) (.ref D) ce) (compPost (model X.prog X.w) X.A X.xe none (EP X pins σ Q) (.ref D) s3.heap.objs.size) s4 := by
      refine PpSet.compLoopS_any (fun n s' => ∃ i H', Inv (X.blk s3 H3 scope ce fp) [] (wipe σ (own.map (·.2))) H' s' ∧ tn i s'.heap ∧ (∀ b ∈ fp, H' b = none) ∧ W i n H') ?_ m0 ⟨0, H3, I4, st4, free3, w0⟩
      rintro n s5 ⟨i, H5, I5, st5, n5, w5⟩
      rcases turn i n H5 w5 with ⟨stop, qq⟩ | ⟨go, Nx, hNx, step⟩
      · refine thnF (T.done (X.blk s3 H3 scope ce fp) rfl rfl rfl hc i [] s5 _ H5 (fun _ _ => False) I5 (stat I5 n5) st5 stop) fun r s6 ⟨hr, I6⟩ => ?_
        subst hr
        have I7 : Inv X pins σ H5 s6 := I3.call' (ch := fp) I6.os I6.base I6.hok I6.bare fun b hb => by
          have z := (f3 b hb).1
          exact ⟨z.2.2.2.1, z.2.1, z.2.2.2.2.1, z.2.2.2.2.2⟩
        have nC : H5 s3.heap.objs.size = none := by
          rw [← locals]
          exact I6.free
        obtain ⟨m, hn, _⟩ := I6.loc
        have hn' : s6.heap.Ns s3.heap.objs.size m := by
          rw [← locals]
          exact hn
        refine ⟨m, hn', fun h'' sb => ?_⟩
        obtain ⟨z0, z1, z2, z3, z4, z5⟩ := I3.fpOk (Nat.le_refl _) nC
        exact ⟨.ref D, H5, I7.turned (t' := s6.toks) (fun b o hb e => (sb.2 b hb).trans e) z0 z1 z3 z4 z5, rfl, qq⟩
      · refine thnF (T.item (X.blk s3 H3 scope ce fp) rfl rfl rfl hc i [] s5 _ H5 (fun _ _ => False) I5 (stat I5 n5) st5 go) fun r s6 ⟨u, hr, h6⟩ => ?_
        subst hr
        refine thnF h6 fun _ s7 ⟨x, H7, I7, r7, y7, st7, n7⟩ => ?_
        have I7' := I7.pinned (stat I7 n7) (T.obj _ _ st7)
        refine thnF (pg.run _ s7 _ H7 x u _ I7' r7 (step x H7 y7)) fun _ s8 ⟨σ8, H8, I8, hw8, q8⟩ => ?_
        refine wpAny_pure ?_
        rw [if_pos rfl]
        refine thnF (pe.run _ s8 σ8 H8 _ I8 q8) fun z s10 ⟨yv, H10, I10, r10, c, ks, ey, hD10, room, nx⟩ => ?_
        subst ey
        obtain ⟨tk, ez⟩ := (show ∃ t, z = Value.str c t from r10)
        subst ez
        refine add_ok (X := X.blk s3 H3 scope ce fp) I10 hD10 room fun s11 I11 => ?_
        obtain ⟨m', hm, w'⟩ := hNx _ nx
        have pin' : ∀ b ∈ fp, ∀ o, s7.heap.get? b = some o → s11.heap.get? b = some o ∧ upd H10 D (TxO (X.blk s3 H3 scope ce fp).w D (plus ks c)) b = none := fun b hb o e =>
          let z := I11.pin (b, o) (List.mem_append_right _ (List.mem_append_right _ (mem_pinsAt hb e)))
          ⟨z.1, z.2.1⟩
        have len : (wipe σ (own.map (·.2))).length = σ8.length := by rw [← hw8, wipe_length]
        refine ⟨m', hm, i + 1, _, (I11.unpinned (pins := [])).weak len (fun j v e => ?_), T.keep _ _ _ st7 fun b hb o e => (pin' b hb o e).1, fun b hb => ?_, w'⟩
        · rw [← hw8] at e
          exact (wipe_some e).1
        · obtain ⟨o, e, _⟩ := T.obj _ _ st7 b hb
          exact (pin' b hb o e).2
    exact PpSet.codeAny_compStart_set loop (T.self X.A 0 _ _ _ st4 loop)
  exact goal
/-- over a tuple that stands still -/
theorem nm_tup {w : World} {K : PySem.W.Frag} {a : Addr} {xs : List V} {g : TG} {te : TE} {vs : List Nat} {σ : L2.St} {H1 : Hp} {D : Addr} {Qd : Hp → Prop} (Pv : Nat → Hp → Prop) (h0 : Pv 0 (upd H1 D (TxO w D [])))
    (hl : ∀ i H, i ≤ xs.length → Pv i H → SqT K H a xs)
    (hs : ∀ i x H, xs[i]? = some x → Pv i H → g x (wipe σ vs) H fun σ2 H2 => wipe σ2 vs = wipe σ vs ∧ te σ2 H2 fun y H4 =>
      ∃ (c : Str) (ks : List Str), y = .str c ∧ H4 D = some (TxO w D ks) ∧ ks.length + 1 < scanBound ∧ Pv (i + 1) (upd H4 D (TxO w D (plus ks c)))) (hd : ∀ H, Pv xs.length H → Qd H) :
    ∃ W : Nat → Nat → Hp → Prop, (∃ m, W 0 m (upd H1 D (TxO w D []))) ∧ ∀ i m H, W i m H → ((Itt K a).stop i H ∧ Qd H) ∨ ((Itt K a).go i H ∧ ∃ Nx : Hp → Prop, (∀ H', Nx H' → ∃ m', m' < m ∧ W (i + 1) m' H') ∧
      ∀ x H', (Itt K a).yld i H x H' → g x (wipe σ vs) H' fun σ2 H2 => wipe σ2 vs = wipe σ vs ∧ te σ2 H2 fun y H4 =>
        ∃ (c : Str) (ks : List Str), y = .str c ∧ H4 D = some (TxO w D ks) ∧ ks.length + 1 < scanBound ∧ Nx (upd H4 D (TxO w D (plus ks c)))) := by
  refine ⟨fun i m H => m = xs.length - i ∧ i ≤ xs.length ∧ Pv i H, ⟨xs.length, by simp, Nat.zero_le _, h0⟩, ?_⟩
  rintro i m H ⟨rfl, hi, p⟩
  have q := hl i H hi p
  rcases Nat.lt_or_ge i xs.length with lt | ge
  · refine .inr ⟨⟨xs, xs[i], q, by simp [lt]⟩, Pv (i + 1), fun H' p' => ⟨xs.length - (i + 1), by omega, rfl, lt, p'⟩, fun x H' y => ?_⟩
    obtain ⟨e, y⟩ := y
    subst e
    exact hs i x _ (y xs q) p
  · have e : i = xs.length := by omega
    subst e
    exact .inl ⟨⟨xs, q, Nat.le_refl _⟩, hd H p⟩
end
end Nm
namespace Nm
open PySem PySem.Spec PyProof.Rows L2
open Sem (wp)
abbrev enumObj (it : Addr) : Obj := { cls := .type "enumerate", data := .fields #[.none, .bool false, .ref it, rawInt 0, .none, .none] }
theorem meets_enum1 {v : Value} {o : Obj} {G : Heap → Prop} (B : Begins v o G) :
    Meets (Builtin.«enumerate.__new__» ⟨[.type "enumerate", v], []⟩) (fun _ R s => G s.heap ∧ R (.ok (.ret (.ref (s.heap.push o).objs.size))) { s with heap := (s.heap.push o).push (enumObj s.heap.objs.size) }) :=
  .of_wp fun prog w A R s h => by
    obtain ⟨hp, g, d, tk, os⟩ := s
    obtain ⟨h1, h⟩ := h
    have sub := sub_enumerate
    have begins : ∀ {A' : Around} {E : Value → Shared → Prop} {Q : Value → Shared → Prop}, Q (.ref hp.objs.size) ⟨hp.push o, g, d, tk, os⟩ → wpAny (model prog w) A' (pyIter v) Q E ⟨hp, g, d, tk, os⟩ := fun q => B.iter prog w _ _ ⟨hp, g, d, tk, os⟩ _ h1 q
    wp_walk
    refine wpAny_stack_any fun st => wpAny_pure ?_
    split
    · rename_i c _ _ _ _ _
      cases (c == Value.type "enumerate") <;> (wp_walk using begins; exact ⟨_, rfl, h⟩)
    · wp_walk using begins
      exact ⟨_, rfl, h⟩
section
variable {prog : Program} {w : World} {A : Around} {E : Value → Shared → Prop} {s : Shared}
theorem call_enum1 {v : Value} {o : Obj} {G : Heap → Prop} {Q : Value → Shared → Prop} (B : Begins v o G) (h1 : G s.heap)
    (h : ∀ h', IsEnum h' (s.heap.objs.size + 1) s.heap.objs.size 0 .none → h'.get? s.heap.objs.size = some o → h'.objs.size = s.heap.objs.size + 2 → (∀ b u, s.heap.get? b = some u → h'.get? b = some u) →
      Q (.ref (s.heap.objs.size + 1)) { s with heap := h' }) : wpAny (model prog w) A (call (.type "enumerate") [v]) Q E s := by
  have one : (s.heap.push o).objs.size = s.heap.objs.size + 1 := Heap.size_push ..
  have made : IsEnum ((s.heap.push o).push (enumObj s.heap.objs.size)) (s.heap.objs.size + 1) s.heap.objs.size 0 .none := by
    have q := Heap.get?_push_size (s.heap.push o) (o := enumObj s.heap.objs.size) rfl
    rw [one] at q
    exact q
  refine callType_new F.called_enumerate (by decide) (F.typeCall_enumerate_1 _) (F.newCall_enumerate_1 _) (fun obj => F.args_object_init_2 obj _) F.entry_enumerate_new (meets_enum1 B) ⟨h1, ?_⟩
  show _ ∧ _
  rw [one]
  exact ⟨⟨_, made, rfl⟩, h _ made (Heap.get?_push_of_some _ (Heap.get?_push_size _ B.free)) (by rw [Heap.size_push, one]) fun b u x => Heap.get?_push_of_some _ (Heap.get?_push_of_some _ x)⟩
end
/-- enumerate of a tuple that stands still: each item in a new pair -/
def Itu (K : PySem.W.Frag) (a : Addr) : It :=
  ⟨fun i H => ∃ (xs : List V) (x : V), SqT K H a xs ∧ xs[i]? = some x,
   fun i H v H' => ∃ T x, v = .ref T ∧ H T = none ∧ H' = upd H T (.tup [.int (i : Nat), x]) ∧ ∀ xs, SqT K H a xs → xs[i]? = some x,
   fun i H => ∃ xs : List V, SqT K H a xs ∧ xs.length ≤ i⟩
theorem turn_itu {P : Program} {w : World} {K : PySem.W.Frag} {elts : List Expr} {kk : Nat} {tpos : Pos} (a e it : Addr) (hei : e ≠ it) (hea : e ≠ a) (hia : a ≠ it) :
    Turn P w K (.Tuple elts kk tpos) (Itu K a) [e, it] e (fun i h => (∃ old, IsEnum h e it ((i : Nat) : Int) old) ∧ h.IsTupleIter it a i) where
  mem := by simp
  obj := fun i h st b hb => by
    obtain ⟨⟨old, he⟩, ⟨o, ho, hc, hd⟩⟩ := st
    rcases (show b = e ∨ b = it by simpa using hb) with z | z
    · rw [z]
      exact ⟨_, he, fun v q => nomatch q⟩
    · rw [z]
      exact ⟨o, ho, fun v q => by rw [hd] at q; cases q⟩
  keep := fun i h h' st k => ⟨st.1.imp fun old he => k e (by simp) _ he, st.2.at fun o q => k it (by simp) o q⟩
  item := by
    intro X hP hw hK hc i pins s σ H E I hf st hg
    subst hP hw hK
    obtain ⟨⟨old, he⟩, hit⟩ := st
    obtain ⟨xs, x, hq, hx⟩ := hg
    obtain ⟨its, rv, p, hz⟩ := I.tuple hq
    obtain ⟨u, hu, ru⟩ := rv.get hx
    have lte : e < s.heap.objs.size := Heap.lt_size he
    have lti : it < s.heap.objs.size := by
      obtain ⟨_, q, _⟩ := hit
      exact Heap.lt_size q
    have li : i < its.toArray.size := by
      have q := (List.getElem?_eq_some_iff.mp hu).1
      simpa using q
    refine wpAny_pyNext_enum_itemD (Draws.tuple (A := X.A.in1) (I.ok.hd hc) it a hia its.toArray) he ⟨hit, p⟩ li hei (by simp [hei, hea]) fun y h' tk hy ho hst' hT hsz hk => ?_
    have ey : y = u := by
      rw [show its.toArray[i]? = some u by simpa using hu] at hy
      exact (Option.some.inj hy).symm
    subst ey
    refine ⟨_, rfl, wpAny_letOwnedTupleGo_enum (s := { s with heap := h', toks := tk + 1 }) ho fun h'' he' sb => ?_⟩
    have hT2 : h''.get? s.heap.objs.size = some { cls := .type "tuple", data := .seq #[.int i tk, y] } := (sb.2 _ (Nat.ne_of_gt lte)).trans hT
    have new : ObjOk X.prog X.w (upd H s.heap.objs.size (.tup [.int (i : Nat), x])) h'' s.heap.objs.size (.tup [.int (i : Nat), x]) :=
      ⟨by show 2 ≤ sizeLine; decide, [.int i tk, y], .cons ⟨_, rfl⟩ (.cons ru .nil), ⟨_, hT2, rfl, _, rfl⟩⟩
    have I1 : Inv X pins σ (upd H s.heap.objs.size (.tup [.int (i : Nat), x])) { s with heap := h'', toks := tk + 1 } :=
      I.turnedNew (ch := [e, it]) (fun b ob hb q => (sb.2 b (fun z => hb (by simp [z]))).trans (hk b ob (fun z => hb (by simp [z])) (fun z => hb (by simp [z])) q)) hf (Nat.le_refl _) new
    refine ⟨.ref s.heap.objs.size, _, I1, rfl, ⟨_, x, rfl, I.hok.fresh (Nat.le_refl _), rfl, fun ys hys => by rw [I.tuple_inj hys hq]; exact hx⟩, ⟨⟨y, ?_⟩, hst'.1.at fun o q => (sb.2 it (Ne.symm hei)).trans q⟩, fun b hb => ?_⟩
    · rw [show ((i + 1 : Nat) : Int) = (i : Int) + 1 by omega]
      exact he'
    · have lt : b < s.heap.objs.size := by
        rcases (show b = e ∨ b = it by simpa using hb) with z | z
        · rw [z]; exact lte
        · rw [z]; exact lti
      rw [upd_ne (Nat.ne_of_lt lt)]
      exact (hf b hb).1
  done := by
    intro X hP hw hK hc i pins s σ H E I hf st hg
    subst hP hw hK
    obtain ⟨⟨old, he⟩, hit⟩ := st
    obtain ⟨xs, hq, hx⟩ := hg
    obtain ⟨its, rv, p, hz⟩ := I.tuple hq
    obtain ⟨f0, f1, f2, f3, f4, f5⟩ := hf it (by simp)
    have hl := rv.length
    have D : Draws X.prog X.w X.A.in1 it [it, a] i (fun _ _ => True) (fun j h => j = i ∧ h.IsTupleIter it a j ∧ h.IsTuple a its.toArray) := by
      have T := Draws.tuple (prog := X.prog) (w := X.w) (A := X.A.in1) (I.ok.hd hc) it a hia its.toArray
      exact {
        live := fun j h z => T.live j h z.2
        frame := fun j h h' z k => ⟨z.1, T.frame j h h' z.2 k⟩
        item := fun j s Q E hj st hQ => absurd hj (by rw [st.1]; exact Nat.lt_irrefl _)
        done := fun s Q E st hE => wpAny_nextOf_tuple_end (I.ok.hd hc) st.2.1 st.2.2 (by simp; omega) hE }
    exact wpAny_pyNext_enum_endD D he ⟨rfl, hit, p⟩ fun h' eb => ⟨rfl, I.turned (t' := s.toks) (fun b o hb q => eb b o hb q) f0 f1 f3 f4 f5⟩
  self := fun A i s Q E st h => let ⟨⟨_, he⟩, _⟩ := st; wpAny_pyIter_enum he h
/-- for i, x in enumerate(t), t a tuple -/
def iEnuT (K : PySem.W.Frag) (ta : TA) : TI := fun σ H R => ta σ H fun vs H1 => ∃ a xs, vs = [.ref a] ∧ SqT K H1 a xs ∧ R (Itu K a) H1
theorem pi_enuT {X : Cx} {e : Expr} {ta : TA} {p pos tpos : Pos} {elts : List Expr} {kk : Nat} (hg : Gl X "enumerate") (hm : X.mg "enumerate" = none) (ha : PA X [e] ta) (hs : starEach [e] X.env = [(false, eval e X.env)] := by rfl) :
    PI X (.Tuple elts kk tpos) (.Call (.Name "enumerate" p) [e] [] pos) (iEnuT X.K ta) := by
  refine ⟨fun pins s σ H R I h => ?_⟩
  refine Call_ (ld_blt I hg hm boot_enumerate (PyProof.Rows.callWith_type1 (thn (ha.run pos pins s σ H _ I h) fun us s1 ⟨vs, H1, I1, r1, q1⟩ => ?_) hs rfl))
  obtain ⟨a, xs, ex, hq, q⟩ := q1
  subst ex
  cases r1 with
  | cons r rr =>
    cases rr
    cases r
    obtain ⟨its, rv, p', hz⟩ := I1.tuple hq
    have lta : a < s1.heap.objs.size := by
      obtain ⟨o, ho, _⟩ := id p'
      exact Heap.lt_size ho
    refine call_enum1 (begins_tuple a its.toArray) p' fun h' he hit hsz hk => wpAny_pyIter_enum he ?_
    have I2 : Inv X pins σ H1 { s1 with heap := h' } := I1.kept (t' := s1.toks) hk
    refine ⟨s1.heap.objs.size + 1, [s1.heap.objs.size + 1, s1.heap.objs.size], _, _, H1, rfl, I2,
      turn_itu a (s1.heap.objs.size + 1) s1.heap.objs.size (Nat.succ_ne_self _) (Nat.ne_of_gt (Nat.lt_succ_of_lt lta)) (Nat.ne_of_lt lta), ⟨⟨.none, he⟩, ⟨_, hit, rfl, rfl⟩⟩, fun b hb => ?_, q⟩
    have le : s1.heap.objs.size ≤ b := by
      rcases (show b = s1.heap.objs.size + 1 ∨ b = s1.heap.objs.size by simpa using hb) with z | z
      · rw [z]; exact Nat.le_add_right _ _
      · rw [z]; exact Nat.le_refl _
    exact I1.fpOk le (I1.hok.fresh le)
theorem walk_itu {K : PySem.W.Frag} {a : Addr} {xs : List V} : Walk (Itu K a) xs.length (fun H => SqT K H a xs) (YPair (fun i => some (.int (i : Nat))) (fun i => xs[i]?)) := by
  refine ⟨fun i _ hi q => ⟨xs, xs[i], q, by simp [hi]⟩, fun _ q => ⟨xs, q, Nat.le_refl _⟩, fun i H v H' _ q y => ?_⟩
  obtain ⟨T, x, h1, h2, h3, h4⟩ := y
  exact ⟨T, .int (i : Nat), x, h1, h2, h3, rfl, h4 xs q⟩
end Nm
namespace Nm
open PySem PySem.Spec PyProof.Rows L2
/-- t * 1 is t itself -/
theorem tuple_mul1 (l : Addr) (items : Array Value) (n : Nat) (dd : Option Addr) (sl : Array (Option Value)) (u : Tok) :
    Meets (Builtin.«tuple.__mul__» ⟨[.ref l, .int 1 u], []⟩) (fun _ R s => s.heap.get? l = some { cls := .type "tuple", dict := dd, data := .seq items n, slots := sl } ∧ R (.ok (.ret (Value.ref l))) s) :=
  .of_wp fun prog w A R s h => by
    obtain ⟨hp, g, d, tk, os⟩ := s
    obtain ⟨hl, h⟩ := h
    have f1 := AutoSeq1.idx_int
    have c0 : (decide ((1 : Int) < -(2 ^ 63)) || decide ((1 : Int) ≥ 2 ^ 63)) = false := by decide
    have c1 : (items.isEmpty || (1 : Int) == 1) = true := by cases items.isEmpty <;> rfl
    wp_walk using wpAny_loadPart' hl
    exact ⟨_, rfl, h⟩
def rRep1 (K : PySem.W.Frag) : R2 := fun x y H Q => ∃ l xs, x = .ref l ∧ y = .int 1 ∧ SqT K H l xs ∧ Q (.ref l) H
def rBlCount (K : PySem.W.Frag) : V → List V → Hp → VK → Prop := fun x xs H Q => ∃ (p : Addr) (bs : List Bool) (c : Bool), x = .ref p ∧ xs = [.bl c] ∧ SqL K H p (bs.map V.bl) ∧ Q (.int (bs.count c : Nat)) H
section
variable {X : Cx}
theorem op_rep1 : OpR X (binaryOp .Mult) (rRep1 X.K) := by
  intro pins s σ H x y v u Q I rx ry h
  obtain ⟨l, xs, rfl, rfl, hT, q⟩ := h
  cases rx
  obtain ⟨t, rfl⟩ := ry
  obtain ⟨its, r, ⟨⟨cls, dd, data, sl⟩, ho, hc, n, hd⟩, hs⟩ := I.tuple hT
  simp only at hc hd
  subst hc hd
  refine wpAny_binaryOp_repeat_ref (T := "tuple") (U := "int") (by decide) ⟨_, ho, rfl⟩ (fun s' => typeIs_int s' 1 t) noFill_tuple_mul F.fills_int_mul F.slot_int_rmul repeat_tuple F.slot_int_index.lookup
    (call_meets F.slot_int_rmul (typeIs_int s 1 t) F.entry_int_rmul (F.args_int_rmul_2 _ _) (int_rmul_tuple 1 t l its.toArray n dd sl)
      ⟨ho, rfl, ⟨_, ho, rfl⟩, call_meets F.slot_tuple_mul ⟨_, ho, rfl⟩ F.entry_tuple_mul (F.args_tuple_mul_2 _ _) (tuple_mul1 l its.toArray n dd sl t) ⟨ho, ⟨.ref l, H, I, rfl, q⟩⟩⟩)
def isBl (c : Bool) (v : Value) : Bool := match v with | .bool b => b == c | _ => false
theorem mt_blcount : MtR X "list.count" (rBlCount X.K) := by
  intro pins s σ H x xs v us Q I rx rxs h
  obtain ⟨p, bs, c, rfl, rfl, hs, q⟩ := h
  cases rx
  obtain ⟨u, rfl, ru⟩ := rxs.one
  obtain rfl : u = Value.bool c := ru
  obtain ⟨its, rv, ⟨⟨cls, dd, data, sl⟩, n, ho, hc, hdn, hd⟩, hlen⟩ := I.list hs
  simp only at hc hd
  subst hc hd
  have eb := Vals.bls rv
  refine call_meets PySem.F.slot_list_count ⟨_, ho, rfl⟩ PySem.F.entry_list_count (PySem.F.args_list_count_2 _ _) (SeqAt.list_countAt p its.toArray n dd sl (.bool c) (isBl c)) ⟨ho, fun y hy => ?_, ?_⟩
  · have hm : y ∈ its := by simpa using hy
    rw [eb] at hm
    obtain ⟨b, _, rfl⟩ := List.mem_map.mp hm
    exact SeqAt.EqAt.bool_bool b c
  · have ec : its.toArray.toList.countP (isBl c) = bs.count c := by
      show its.countP (isBl c) = _
      rw [eb, List.countP_map]
      rfl
    refine ⟨.int (bs.count c : Nat), H, I.tok _, ⟨s.toks, ?_⟩, q⟩
    show Value.int ((its.toArray.toList.countP (isBl c) : Nat) : Int) s.toks = Value.int ((bs.count c : Nat) : Int) s.toks
    rw [ec]
/-- nothing is asked that could be met: an expression that is never reached -/
theorem pe_never {e : Expr} : PE X e (fun _ _ _ => False) := ⟨fun _ _ _ _ _ _ h => h.elim⟩
end
end Nm
namespace Nm
open PySem PySem.Spec PyProof.Rows L2
open C8 (Cal Mak pe_c pe_mk pe_gc)
open RZ (ItzT pi_zipA)
/-- a def of the text that stands under its name -/
def Top (K : PySem.W.Frag) (mg : Str → Option Value) (x : Str) (st : Stmt) : Prop := ∃ f fd, Fun K x x st f fd ∧ mg x = some (.ref f)
section
variable {P : Program} {w : World} {K : PySem.W.Frag} {mg : Str → Option Value} {base : Heap}
theorem cal_of {x : Str} {st : Stmt} {N ps : List Str} {k : Nat} {sp : Sp} (D : Top K mg x st) (S : FnScope N ps (defScope st))
    (hb : ∀ (kV doc pm : Value) (an : Option Addr) (cdv ct : Value) (us : List Value), us.length = ps.length → bindArgs (PySem.W.fnOf x x (defArgs st) (defBody st) (defScope st) .none kV doc pm an cdv ct) ⟨us, []⟩ = pure (ps.zip us))
    (len : ∀ vs H Q E, sp vs H Q E → vs.length = ps.length)
    (body : ∀ (f : Addr) (cdv : Value) (A : Around) (outer : List Env) (s : Shared) (H : Hp) (vs : List V) (Q : VK) (E : XK), Room k (A.deeper (envOfC x (defScope st) s.heap.objs.size f cdv)) → sp vs H Q E →
      ∃ t, PSs (cxOf CX0 P w K mg base N x (defScope st) f cdv A outer s H E).nox (defBody st) t ∧ t { nx := fun _ H' => Q .non H', rt := Q } (start N vs) H) : Cal P w K mg base (k + 1) x sp [] := by
  obtain ⟨f, fd, F, hm⟩ := D
  exact ⟨f, fd, ps, [], F.ok S len fun cdv A outer s H vs Q E hr h => body f cdv A outer s H vs Q E hr h, hm, F.kp, F.binds hb, .nil⟩
end
theorem cal_mono {P : Program} {w : World} {K : PySem.W.Frag} {mg : Str → Option Value} {base : Heap} {k : Nat} {x : Str} {sp sp' : Sp} (c : Cal P w K mg base k x sp []) (h : ∀ vs H Q E, sp' vs H Q E → sp vs H Q E) : Cal P w K mg base k x sp' [] := by
  obtain ⟨f, fd, ps, ds, F, hm, kp, b, d⟩ := c.ex
  obtain ⟨F1, F2⟩ := F
  exact ⟨f, fd, ps, ds, ⟨fun vs H Q E q => F1 vs H Q E (h vs H Q E q), fun A outer s H args us vs Q E a1 a2 a3 a4 q => F2 A outer s H args us vs Q E a1 a2 a3 a4 (h vs H Q E q)⟩, hm, kp, b, d⟩
/-- laid over something new all stands -/
theorem same_new {H : Hp} {p : Addr} {o : HO} (h : H p = none) : Same H (upd H p o) := fun b u q => by
  rw [upd_ne (ne_of_none q h)]
  exact q
/-- what happens to a new object leaves the rest -/
theorem same_mut {H H' : Hp} {p : Addr} {o : HO} (g : Same H H') (h : H p = none) : Same H (upd H' p o) := fun b u q => by
  rw [upd_ne (ne_of_none q h)]
  exact g b u q
/-- what isinstance says -/
theorem is_int {K : PySem.W.Frag} : PySem.W.kitOne K (.type "int") (.type "int") = some true := kit_ty (by decide +kernel)
theorem is_int_bool {K : PySem.W.Frag} : PySem.W.kitOne K (.type "int") (.type "bool") = some false := kit_ty (by decide +kernel)
theorem is_tup_int {K : PySem.W.Frag} : PySem.W.kitOne K (.type "tuple") (.type "int") = some false := kit_ty (by decide +kernel)
theorem is_tup {K : PySem.W.Frag} : PySem.W.kitOne K (.type "tuple") (.type "tuple") = some true := kit_ty (by decide +kernel)
theorem is_int_tup {K : PySem.W.Frag} : PySem.W.kitOne K (.type "int") (.type "tuple") = some false := kit_ty (by decide +kernel)
theorem is_str {K : PySem.W.Frag} : PySem.W.kitOne K (.type "str") (.type "str") = some true := kit_ty (by decide +kernel)
theorem is_bool {K : PySem.W.Frag} : PySem.W.kitOne K (.type "bool") (.type "bool") = some true := kit_ty (by decide +kernel)
def isInt : V → Bool
  | .int _ => true
  | _ => false
def isStr : V → Bool
  | .str _ => true
  | _ => false
/-- isinstance(x, n) is b -/
def TyC (K : PySem.W.Frag) (H : Hp) (x : V) (n : String) (b : Bool) : Prop := ∃ t, TyX K H x t ∧ PySem.W.kitOne K t (.type n) = some b
/-- what the program's own look for an integer needs -/
def TyI (K : PySem.W.Frag) (H : Hp) (x : V) : Prop := ∃ b c, TyC K H x "int" b ∧ TyC K H x "bool" c ∧ (b && !c) = isInt x
section
variable {K : PySem.W.Frag} {H : Hp}
theorem tyc_int (i : Int) : TyC K H (.int i) "int" true := ⟨_, .base (.int i), kit_ty (by decide +kernel)⟩
theorem tyi_int (i : Int) : TyI K H (.int i) := ⟨true, false, ⟨_, .base (.int i), kit_ty (by decide +kernel)⟩, ⟨_, .base (.int i), kit_ty (by decide +kernel)⟩, rfl⟩
theorem tyi_tup {a : Addr} {xs : List V} (h : H a = some (.tup xs)) : TyI K H (.ref a) := ⟨false, false, ⟨_, .base (.tup h), kit_ty (by decide +kernel)⟩, ⟨_, .base (.tup h), kit_ty (by decide +kernel)⟩, rfl⟩
theorem tyi_str (z : Str) : TyI K H (.str z) := ⟨false, false, ⟨_, .base (.str z), kit_ty (by decide +kernel)⟩, ⟨_, .base (.str z), kit_ty (by decide +kernel)⟩, rfl⟩
theorem tyc_tup {a : Addr} {xs : List V} (h : H a = some (.tup xs)) : TyC K H (.ref a) "tuple" true := ⟨_, .base (.tup h), kit_ty (by decide +kernel)⟩
theorem tyc_int_tup (i : Int) : TyC K H (.int i) "tuple" false := ⟨_, .base (.int i), kit_ty (by decide +kernel)⟩
theorem tyc_str (z : Str) : TyC K H (.str z) "str" true := ⟨_, .base (.str z), kit_ty (by decide +kernel)⟩
theorem tyc_bl (b : Bool) : TyC K H (.bl b) "bool" true := ⟨_, .base (.bl b), kit_ty (by decide +kernel)⟩
end
/-- a text of 1 to most letters a to z -/
def letB (z : Str) (most : Int) : Bool := decide (1 ≤ (z.length : Int)) && decide ((z.length : Int) ≤ most) && z.cps.toList.all (fun c => decide (97 ≤ c) && decide (c ≤ 122))
def letV (x : V) (most : Int) : Bool := match x with | .str z => letB z most | _ => false
def within (x : V) (lo hi : Int) : Bool := match x with | .int n => decide (lo ≤ n) && decide (n ≤ hi) | _ => false
theorem sign_lt (c d : Nat) : decide (([c] : List Nat) < [d]) = decide (c < d) := by
  by_cases h : c < d
  · rw [decide_eq_true h]
    exact decide_eq_true (List.Lex.rel h)
  · rw [decide_eq_false h]
    refine decide_eq_false fun q => ?_
    cases q with
    | rel r => exact h r
    | cons r => cases r
/-! ### boards -/
/-- a board: its name, the side, the row that was played -/
abbrev Bd := Str × Int × List Str
def BoardAt (H : Hp) (v : V) (b : Bd) : Prop := ∃ a r, v = .ref a ∧ H a = some (.tup [.str b.1, .int b.2.1, .ref r]) ∧ H r = some (.tup (b.2.2.map V.str))
def BoardsAt (H : Hp) (a : Addr) (bs : List Bd) : Prop := ∃ xs, H a = some (.tup xs) ∧ Paired (BoardAt H) xs bs
def rowB (ws : List Str) (most : Int) : Bool := decide ((ws.length : Int) ≤ most) && ws.all (fun z => letB z 20)
def boardB (b : Bd) : Bool := letB b.1 8 && (within (.int b.2.1) 0 1 && rowB b.2.2 20)
/-- nothing here is too long for the model -/
def smallBd (b : Bd) : Prop := b.1.length ≤ 1000 ∧ b.2.2.length ≤ 1000 ∧ ∀ z ∈ b.2.2, z.length ≤ 1000
theorem BoardAt.mono {H H' : Hp} (k : ∀ a xs, H a = some (.tup xs) → H' a = some (.tup xs)) {v : V} {b : Bd} (h : BoardAt H v b) : BoardAt H' v b := by
  obtain ⟨a, r, e, h1, h2⟩ := h
  exact ⟨a, r, e, k _ _ h1, k _ _ h2⟩
theorem paired_mono {α β : Type} {R S : α → β → Prop} (h : ∀ a b, R a b → S a b) : ∀ {xs : List α} {ys : List β}, Paired R xs ys → Paired S xs ys
  | _, _, .nil => .nil
  | _, _, .cons r t => .cons (h _ _ r) (paired_mono h t)
theorem paired_at {α β : Type} {R : α → β → Prop} : ∀ {xs : List α} {ys : List β}, Paired R xs ys → ∀ (i : Nat) (x : α), xs[i]? = some x → ∃ y, ys[i]? = some y ∧ R x y
  | _, _, .nil, i, x, h => by simp at h
  | _, _, .cons r t, 0, x, h => by
    simp at h
    subst h
    exact ⟨_, rfl, r⟩
  | _, _, .cons r t, i + 1, x, h => by
    obtain ⟨y, h1, h2⟩ := paired_at t i x (by simpa using h)
    exact ⟨y, by simpa using h1, h2⟩
theorem paired_len {α β : Type} {R : α → β → Prop} : ∀ {xs : List α} {ys : List β}, Paired R xs ys → xs.length = ys.length
  | _, _, .nil => rfl
  | _, _, .cons _ t => by rw [List.length_cons, List.length_cons, paired_len t]
theorem BoardsAt.mono {H H' : Hp} (k : ∀ a xs, H a = some (.tup xs) → H' a = some (.tup xs)) {a : Addr} {bs : List Bd} (h : BoardsAt H a bs) : BoardsAt H' a bs := by
  obtain ⟨xs, h1, h2⟩ := h
  exact ⟨xs, k _ _ h1, paired_mono (fun _ _ => BoardAt.mono k) h2⟩
theorem same_tups {H H' : Hp} (g : Same H H') : ∀ a xs, H a = some (.tup xs) → H' a = some (.tup xs) := fun a xs h => g a _ h
/-! ### texts gathered -/
theorem take_one {α : Type} {l : List α} {i : Nat} {x : α} (h : l[i]? = some x) : l.take (i + 1) = l.take i ++ [x] := by
  rw [List.take_add_one, h]
  rfl
/-- the program's own word for the names: each once, ascending -/
structure Names (xs ys : List Str) : Prop where
  up : PyProof.Rows.sortedS ys = true
  nd : ys.Nodup
  mem : ∀ x, x ∈ ys ↔ x ∈ xs
/-- a hall stands at p, with these boards -/
def HallAt (K : PySem.W.Frag) (H : Hp) (p : Addr) (bs : List Bd) : Prop := ∃ C dx fs a n ys, Cls K C ∧ NoAttr K C "boards" ∧ NoAttr K C "names" ∧ H p = some (.ins C dx fs) ∧ fs.lookup ("boards" : Str) = some (.ref a) ∧ fs.lookup ("names" : Str) = some (.ref n) ∧
  BoardsAt H a bs ∧ H n = some (.tup (ys.map V.str)) ∧ Names (bs.map (·.1)) ys
/-- all that is no list stands -/
def Keep (H H' : Hp) : Prop := ∀ b o, H b = some o → (∀ xs, o ≠ .lst xs) → H' b = some o
theorem same_keep {H H' : Hp} (g : Same H H') : Keep H H' := fun b o h _ => g b o h
theorem Keep.refl (H : Hp) : Keep H H := fun _ _ h _ => h
theorem Keep.trans {H H1 H2 : Hp} (a : Keep H H1) (b : Keep H1 H2) : Keep H H2 := fun c o h n => b c o (a c o h n) n
theorem Keep.tups {H H' : Hp} (g : Keep H H') : ∀ a xs, H a = some (.tup xs) → H' a = some (.tup xs) := fun a xs h => g a _ h fun _ e => nomatch e
theorem HallAt.mono {K : PySem.W.Frag} {H H' : Hp} (g : Keep H H') {p : Addr} {bs : List Bd} (h : HallAt K H p bs) : HallAt K H' p bs := by
  obtain ⟨C, dx, fs, a, n, ys, h1, h2, h3, h4, h5, h6, h7, h8, h9⟩ := h
  exact ⟨C, dx, fs, a, n, ys, h1, h2, h3, g _ _ h4 (fun _ e => nomatch e), h5, h6, h7.mono g.tups, g.tups _ _ h8, h9⟩
theorem nb_ne : ¬ (("boards" : Str) = "names") := by decide +kernel
/-! ### zip of two tuples of any lengths -/
theorem walk_zipT {K : PySem.W.Frag} {a b : Addr} {xs ys : List V} {n : Nat} (hn : n = min xs.length ys.length) : Walk (ItzT K a b) n (fun H => SqT K H a xs ∧ SqT K H b ys) (YPair (fun i => xs[i]?) (fun i => ys[i]?)) := by
  subst hn
  refine ⟨fun i _ hi q => ?_, fun _ q => ⟨xs, ys, q.1, q.2, by omega⟩, fun i H v H' _ q y => ?_⟩
  · have h1 : i < xs.length := by omega
    have h2 : i < ys.length := by omega
    exact ⟨xs, ys, xs[i], ys[i], q.1, q.2, by simp [h1], by simp [h2]⟩
  · obtain ⟨T, x, z, h1, h2, h3, h4, h5⟩ := y
    exact ⟨T, x, z, h1, h2, h3, h4 xs q.1, h5 ys q.2⟩
/-- the ints rise, each pair of neighbours looked at -/
def ascB (ns : List Int) : Bool := (ns.zip (ns.drop 1)).all fun p => decide (p.1 < p.2)
theorem ascB_of {ns : List Int} (h : ns.Pairwise (· < ·)) : ascB ns = true := by
  unfold ascB
  rw [List.all_eq_true]
  intro p hp
  refine decide_eq_true ?_
  induction ns with
  | nil => simp at hp
  | cons a r ih =>
    obtain ⟨h1, h2⟩ := List.pairwise_cons.mp h
    cases r with
    | nil => simp at hp
    | cons b r =>
      rw [List.drop_one, List.tail_cons] at hp
      rcases List.mem_cons.mp (by simpa using hp) with e | e
      · subst e
        exact h1 b List.mem_cons_self
      · refine ih h2 ?_
        rw [List.drop_one, List.tail_cons]
        exact e
theorem map_at {α β : Type} {f : α → β} {l : List α} {i : Nat} {y : β} (h : (l.map f)[i]? = some y) : ∃ x, l[i]? = some x ∧ y = f x := by
  rw [List.getElem?_map] at h
  cases e : l[i]? with
  | none =>
    rw [e] at h
    cases h
  | some x =>
    rw [e] at h
    exact ⟨x, rfl, (Option.some.inj h).symm⟩
/-- a def that nobody can ask anything of -/
theorem cal_void {P : Program} {w : World} {K : PySem.W.Frag} {mg : Str → Option Value} {base : Heap} {x : Str} {st : Stmt} {ps : List Str} {k : Nat} {sp : Sp} (D : Top K mg x st)
    (hb : ∀ (kV doc pm : Value) (an : Option Addr) (cdv ct : Value) (us : List Value), us.length = ps.length → PySem.bindArgs (PySem.W.fnOf x x (defArgs st) (defBody st) (defScope st) .none kV doc pm an cdv ct) ⟨us, []⟩ = pure (ps.zip us))
    (no : ∀ vs H Q E, ¬ sp vs H Q E) : Cal P w K mg base k x sp [] := by
  obtain ⟨f, fd, F, hm⟩ := D
  exact ⟨f, fd, ps, [], ⟨fun vs H Q E h => absurd h (no vs H Q E), fun A outer s H args us vs Q E _ _ _ _ h => absurd h (no vs H Q E)⟩, hm, F.kp, F.binds hb, .nil⟩
/-! ### aims -/
inductive AKind where
  | all | some | least (k : Int)
def AKind.head : AKind → List V
  | .all => [.str "all"]
  | .some => [.str "some"]
  | .least k => [.str "least", .int k]
def AKind.ok : AKind → Prop
  | .least k => 0 ≤ k ∧ k ≤ 25
  | _ => True
def AKind.val : AKind → List Bool → Bool
  | .all, bs => bs.all id
  | .some, bs => bs.any id
  | .least k, bs => decide (k ≤ (bs.count true : Nat))
def AKind.need : AKind → Nat → Int
  | .all, n => n
  | .some, _ => 1
  | .least k, _ => k
/-- what an aim says of the boards that are won -/
abbrev ASem := (Int → Bool) → Bool
/-- at v stands an aim of boards below many, at most d deep, of s aims, that says φ -/
def AimV (H : Hp) (many : Int) : Nat → V → Nat → ASem → Prop
  | 0, _, _, _ => False
  | d + 1, v, s, φ => (∃ n : Int, v = .int n ∧ 0 ≤ n ∧ n < many ∧ s = 1 ∧ φ = fun w => w n) ∨
    (∃ (a p : Addr) (xs : List V) (kd : AKind) (ys : List (Nat × ASem)), v = .ref a ∧ H a = some (.tup (kd.head ++ [.ref p])) ∧ H p = some (.tup xs) ∧ kd.ok ∧ xs.length ≤ 24 ∧ Paired (fun x y => AimV H many d x y.1 y.2) xs ys ∧
      s = 1 + (ys.map (·.1)).sum ∧ φ = fun w => kd.val (ys.map fun y => y.2 w))
theorem AimV.mono {H H' : Hp} {many : Int} (k : ∀ a xs, H a = some (.tup xs) → H' a = some (.tup xs)) : ∀ {d : Nat} {v : V} {s : Nat} {φ : ASem}, AimV H many d v s φ → AimV H' many d v s φ
  | 0, _, _, _, h => h.elim
  | d + 1, v, s, φ, h => by
    rcases h with h | ⟨a, p, xs, kd, ys, h1, h2, h3, h4, h5, h6, h7, h8⟩
    · exact .inl h
    · exact .inr ⟨a, p, xs, kd, ys, h1, k _ _ h2, k _ _ h3, h4, h5, paired_mono (fun _ _ h => AimV.mono k h) h6, h7, h8⟩
theorem AimV.deeper {H : Hp} {many : Int} : ∀ {d e : Nat} {v : V} {s : Nat} {φ : ASem}, d ≤ e → AimV H many d v s φ → AimV H many e v s φ
  | 0, _, _, _, _, _, h => h.elim
  | d + 1, 0, _, _, _, l, _ => absurd l (Nat.not_succ_le_zero d)
  | d + 1, e + 1, v, s, φ, l, h => by
    rcases h with h | ⟨a, p, xs, kd, ys, h1, h2, h3, h4, h5, h6, h7, h8⟩
    · exact .inl h
    · exact .inr ⟨a, p, xs, kd, ys, h1, h2, h3, h4, h5, paired_mono (fun _ _ h => AimV.deeper (Nat.le_of_succ_le_succ l) h) h6, h7, h8⟩
theorem AimV.pos {H : Hp} {many : Int} : ∀ {d : Nat} {v : V} {s : Nat} {φ : ASem}, AimV H many d v s φ → 1 ≤ s
  | 0, _, _, _, h => h.elim
  | d + 1, v, s, φ, h => by
    rcases h with ⟨n, _, _, _, e, _⟩ | ⟨a, p, xs, kd, ys, h1, h2, h3, h4, h5, h6, h7, h8⟩ <;> omega
theorem head_len (kd : AKind) : (kd.head ++ [V.ref p]).length = 2 ∨ (kd.head ++ [V.ref p]).length = 3 := by
  cases kd
  · exact .inl rfl
  · exact .inl rfl
  · exact .inr rfl
def b2 (b : Bool) : Int := if b then 1 else 0
theorem iteP {c A B : Prop} [Decidable c] (hc : c) (h : A) : if c then A else B := by
  rw [if_pos hc]
  exact h
theorem iteN {c A B : Prop} [Decidable c] (hc : ¬ c) (h : B) : if c then A else B := by
  rw [if_neg hc]
  exact h
theorem nt {b : Bool} (h : b = false) : ¬ b = true := by rw [h]; exact Bool.false_ne_true
theorem l2 : 2 ≤ PySem.sizeLine := by decide
theorem sum_take_le : ∀ (l : List Nat) (i : Nat), (l.take i).sum ≤ l.sum
  | [], i => by simp
  | x :: l, 0 => by simp
  | x :: l, i + 1 => by
    have := sum_take_le l i
    simp only [List.take_succ_cons, List.sum_cons]
    omega
theorem sum_take_one {l : List Nat} {i x : Nat} (h : l[i]? = some x) : (l.take (i + 1)).sum = (l.take i).sum + x := by
  rw [take_one h, List.sum_append]
  simp
theorem int_ne {i j : Int} (h : i ≠ j) : decide (V.int i = V.int j) = false := decide_eq_false fun e => h (V.int.inj e)
theorem int_eq {i j : Int} (h : i = j) : decide (V.int i = V.int j) = true := decide_eq_true (congrArg V.int h)
/-! ### the tape from which a law draws -/
def TapeAt (H : Hp) (tp l : Addr) : Prop := ∃ (ns : List Int) (i c m n : Int), H tp = some (.lst [.ref l, .int i, .int c, .int m, .int n]) ∧ H l = some (.lst (ns.map V.int)) ∧ 0 ≤ i
/-- all but the tape stands -/
def Mov (tp : Addr) (H H' : Hp) : Prop := ∀ b o, H b = some o → b ≠ tp → H' b = some o
theorem Mov.refl (tp : Addr) (H : Hp) : Mov tp H H := fun _ _ h _ => h
theorem Mov.trans {tp : Addr} {H H1 H2 : Hp} (a : Mov tp H H1) (b : Mov tp H1 H2) : Mov tp H H2 := fun c o h n => b c o (a c o h n) n
theorem mov_same {tp : Addr} {H H' : Hp} (g : Same H H') : Mov tp H H' := fun b o h _ => g b o h
theorem mov_upd {tp : Addr} {H : Hp} {o : HO} : Mov tp H (upd H tp o) := fun b u h n => by
  rw [upd_ne n]
  exact h
theorem mov_mut {tp : Addr} {H H' : Hp} {p : Addr} {o : HO} (g : Mov tp H H') (h : H p = none) : Mov tp H (upd H' p o) := fun b u q n => by
  rw [upd_ne (ne_of_none q h)]
  exact g b u q n
theorem TapeAt.keep {H H' : Hp} {tp l : Addr} (t : TapeAt H tp l) (m : Mov tp H H') : Keep H H' := fun b o h n => m b o h fun e => by
  obtain ⟨ns, i, c, k, j, h1, _⟩ := t
  rw [e, h1] at h
  exact n _ (Option.some.inj h).symm
theorem TapeAt.same {H H' : Hp} {tp l : Addr} (t : TapeAt H tp l) (g : Same H H') : TapeAt H' tp l := by
  obtain ⟨ns, i, c, k, j, h1, h2, h3⟩ := t
  exact ⟨ns, i, c, k, j, g _ _ h1, g _ _ h2, h3⟩
theorem TapeAt.new {H : Hp} {tp l p : Addr} (t : TapeAt H tp l) (h : H p = none) : p ≠ tp ∧ p ≠ l := by
  obtain ⟨ns, i, c, k, j, h1, h2, h3⟩ := t
  exact ⟨(ne_of_none h1 h).symm, (ne_of_none h2 h).symm⟩
theorem TapeAt.upd {H : Hp} {tp l p : Addr} {o : HO} (t : TapeAt H tp l) (n : p ≠ tp ∧ p ≠ l) : TapeAt (L2.upd H p o) tp l := by
  obtain ⟨ns, i, c, k, j, h1, h2, h3⟩ := t
  exact ⟨ns, i, c, k, j, by rw [upd_ne n.1.symm]; exact h1, by rw [upd_ne n.2.symm]; exact h2, h3⟩
theorem keep_lst {H : Hp} {p : Addr} {xs ys : List V} (h : H p = some (.lst xs)) : Keep H (upd H p (.lst ys)) := fun b o hb n => by
  rw [upd_ne (fun e => by rw [e, h] at hb; exact n _ (Option.some.inj hb).symm)]
  exact hb
theorem paired_snoc {α β : Type} {R : α → β → Prop} : ∀ {xs : List α} {ys : List β} {x : α} {y : β}, Paired R xs ys → R x y → Paired R (xs ++ [x]) (ys ++ [y])
  | _, _, _, _, .nil, h => .cons h .nil
  | _, _, _, _, .cons r t, h => .cons r (paired_snoc t h)
theorem sum_bound {B : Nat} : ∀ (l : List Nat), (∀ x ∈ l, x ≤ B) → l.sum ≤ B * l.length
  | [], _ => by simp
  | x :: l, h => by
    have h1 := h x List.mem_cons_self
    have h2 := sum_bound l fun y hy => h y (List.mem_cons_of_mem _ hy)
    rw [List.sum_cons, List.length_cons, Nat.mul_succ]
    omega
theorem tape_ne {H : Hp} {tp l : Addr} {ns : List Int} {i c m n : Int} (h1 : H tp = some (.lst [.ref l, .int i, .int c, .int m, .int n])) (h2 : H l = some (.lst (ns.map V.int))) : l ≠ tp := fun e => by
  rw [e, h1] at h2
  cases ns with
  | nil => cases h2
  | cons a r => cases h2
theorem at_getD {L : List Int} {k : Nat} (h : k < L.length) : atI (L.map V.int) (k : Int) = some (V.int (L.getD k 0)) := by
  refine atI_nat ?_
  rw [List.getElem?_map, List.getD_eq_getElem?_getD, List.getElem?_eq_getElem h]
  rfl
theorem ixN_nat {n k : Nat} (h : k < n) : ixN n (k : Int) = some k := by
  unfold ixN
  rw [if_pos (by omega), if_pos (by omega)]
  rfl
theorem in_ints (n : Int) : ∀ ns : List Int, inV (.int n) (ns.map V.int) = decide (n ∈ ns)
  | [] => rfl
  | m :: ns => by
    have ih := in_ints n ns
    unfold inV at ih ⊢
    rw [List.map_cons, List.any_cons, ih]
    have e : eqV (V.int m) (V.int n) = decide (m = n) := by
      show (m == n) = decide (m = n)
      by_cases h : m = n
      · rw [decide_eq_true h, h]
        exact beq_self_eq_true n
      · rw [decide_eq_false h]
        exact beq_eq_false_iff_ne.mpr h
    rw [e]
    by_cases h : m = n
    · subst h
      simp
    · have h' : ¬ n = m := fun z => h z.symm
      simp [h, h']
theorem flat_ints (ns : List Int) : (ns.map V.int).all flatV = true := by
  rw [List.all_map]
  exact List.all_eq_true.mpr fun _ _ => rfl
end Nm
namespace NmD
open PySem PySem.Spec PyProof.Rows L2 PySem.W PySem.SeqAt
mutual
/-- no list and no dict in it -/
def pureD : PyData → Bool
  | .none => true
  | .bool _ => true
  | .int _ => true
  | .str _ => true
  | .list _ => false
  | .tuple xs => pureAll xs
  | .dict _ => false
def pureAll : List PyData → Bool
  | [] => true
  | x :: xs => pureD x && pureAll xs
end
def Tups (h h' : Heap) : Prop := ∀ b o, h.get? b = some o → o.cls = .type "tuple" → h'.get? b = some o
mutual
theorem reads_keep {h h' : Heap} (kp : Tups h h') : ∀ (d : PyData) (v : Value) (as : List Addr), pureD d = true → Reads h v d as → ∃ bs, Reads h' v d bs
  | .none, _, _, _, r => by
    cases r
    exact ⟨_, .none⟩
  | .bool b, _, _, _, r => by
    cases r
    exact ⟨_, .bool b⟩
  | .int i, _, _, _, r => by
    cases r
    exact ⟨_, .int i _⟩
  | .str x, _, _, _, r => by
    cases r
    exact ⟨_, .str x _⟩
  | .list xs, _, _, p, _ => by
    unfold pureD at p
    cases p
  | .dict xs, _, _, p, _ => by
    unfold pureD at p
    cases p
  | .tuple xs, _, _, p, r => by
    cases r with
    | tuple h1 h2 h3 h4 =>
      obtain ⟨bs, q⟩ := reads_keepA kp xs _ _ (by unfold pureD at p; exact p) h4
      exact ⟨bs, .tuple (kp _ _ h1 h2) h2 h3 q⟩
theorem reads_keepA {h h' : Heap} (kp : Tups h h') : ∀ (ds : List PyData) (vs : List Value) (as : List Addr), pureAll ds = true → ReadsAll h vs ds as → ∃ bs, ReadsAll h' vs ds bs
  | [], _, _, _, r => by
    cases r
    exact ⟨_, .nil⟩
  | d :: ds, _, _, p, r => by
    cases r with
    | cons r1 r2 =>
      unfold pureAll at p
      rw [Bool.and_eq_true] at p
      obtain ⟨b1, q1⟩ := reads_keep kp d _ _ p.1 r1
      obtain ⟨b2, q2⟩ := reads_keepA kp ds _ _ p.2 r2
      exact ⟨_, .cons q1 q2⟩
end
/-- the first item of each -/
def Firsts (h : Heap) : List Value → List (Option Value) → Prop
  | [], [] => True
  | v :: vs, f :: fs => (∃ a o xs n, v = .ref a ∧ h.get? a = some o ∧ o.cls = .type "tuple" ∧ o.data = .seq xs n ∧ xs[0]? = f) ∧ Firsts h vs fs
  | _, _ => False
section
variable {M : Model} {A : Around} {E : Value → Shared → Prop} {s : Shared}
theorem firsts_run : ∀ (vs : List Value) (fs : List (Option Value)) {Q : List (Option Value) → Shared → Prop}, Firsts s.heap vs fs → Q fs s → wpAny M A (vs.mapM firstOfTuple') Q E s
  | [], [], _, _, h => by rw [List.mapM_nil]; exact wpAny_pure h
  | [], _ :: _, _, t, _ => t.elim
  | _ :: _, [], _, t, _ => t.elim
  | v :: vs, f :: fs, Q, t, h => by
    obtain ⟨⟨a, o, xs, n, rfl, ho, hc, hd, hf⟩, t⟩ := t
    rw [List.mapM_cons]
    refine wpAny_bind ?_
    rw [kas_first_eq]
    refine wpAny_bind (Looks.here (show Looks M s.heap (typeOf (.ref a)) o.cls from (Looks.ld ho).andThen .now) ?_)
    rw [hc, if_neg (by first | decide | simp)]
    refine wpAny_bind (listItems_at ho hd (wpAny_pure ?_))
    rw [hf]
    exact wpAny_bind (firsts_run vs fs (Q := fun bs s' => wpAny M A (pure (f :: bs)) Q E s') t (wpAny_pure h))
theorem firsts_typ : ∀ {vs : List Value} {fs : List (Option Value)}, Firsts s.heap vs fs → ∀ v ∈ vs, Looks M s.heap (typeOf v) (.type "tuple")
  | [], _, _, v, hv => absurd hv (List.not_mem_nil)
  | _ :: _, [], t, _, _ => t.elim
  | u :: us, f :: fs, t, v, hv => by
    obtain ⟨⟨a, o, xs, n, rfl, ho, hc, hd, hf⟩, t⟩ := t
    rcases List.mem_cons.mp hv with rfl | hv
    · have L : Looks M s.heap (typeOf (.ref a)) o.cls := (Looks.ld ho).andThen .now
      rw [hc] at L
      exact L
    · exact firsts_typ t v hv
/-- an empty one among them -/
theorem kind_mix {vs : List Value} {fs : List (Option Value)} {Q : SortKind → Shared → Prop} (t : Firsts s.heap vs fs) (hn : (fs.toArray.all fun x => x.isSome) = false) (h : ∀ κ, κ = general' ∨ κ = oneType' → Q κ s) :
    wpAny M A (keyKind' vs.toArray) Q E s := by
  rw [kat_kind_eq, List.mapM_toArray, map_eq_pure_bind]
  refine wpAny_bind (wpAny_bind (firsts_run vs _ t (wpAny_pure ?_)))
  rw [if_neg (by rw [hn]; exact Bool.false_ne_true)]
  refine wpAny_ite ?_
  split
  · exact wpAny_pure (h _ (.inl rfl))
  · rw [oneTypeOnly'_eq, List.mapM_toArray, map_eq_pure_bind]
    refine wpAny_bind (wpAny_bind (wpAny_bind (kas_mapM (r := Value.type "tuple") _ (fun v hv Q' hq => (firsts_typ t v hv).here hq) (wpAny_pure ?_))))
    split
    · split
      · exact wpAny_pure (wpAny_pure (h _ (.inr rfl)))
      · exact wpAny_pure (wpAny_pure (h _ (.inl rfl)))
    · exact wpAny_pure (wpAny_pure (h _ (.inl rfl)))
theorem kat_of : ∀ {vs : List Value} {fs : List (Option Value)}, Firsts s.heap vs fs → (fs.toArray.all fun x => x.isSome) = true → ∃ gs, fs = gs.map some ∧ KatTups s.heap vs gs
  | [], [], _, _ => ⟨[], rfl, KatTups.nil⟩
  | [], _ :: _, t, _ => t.elim
  | _ :: _, [], t, _ => t.elim
  | v :: vs, f :: fs, t, e => by
    obtain ⟨⟨a, o, xs, n, rfl, ho, hc, hd, hf⟩, t⟩ := t
    have e' : f.isSome = true ∧ (fs.all fun x => x.isSome) = true := by simpa using e
    obtain ⟨gs, rfl, kt⟩ := kat_of t (by simpa using e'.2)
    obtain ⟨g, rfl⟩ := Option.isSome_iff_exists.mp e'.1
    exact ⟨g :: gs, rfl, ⟨a, o, xs, n, rfl, ho, hc, hd, hf⟩, kt⟩
end
def tyD : PyData → String
  | .int _ => "int"
  | .str _ => "str"
  | .tuple _ => "tuple"
  | .bool _ => "bool"
  | .none => "NoneType"
  | .list _ => "list"
  | .dict _ => "dict"
section
variable {prog : Program} {w : World} {A : Around} {E : Value → Shared → Prop} {s : Shared}
theorem look_ty {M : Model} {h : Heap} {z : PyData} {v : Value} {as : List Addr} (p : pureD z = true) (r : Reads h v z as) : Looks M h (typeOf v) (.type (tyD z)) := by
  cases r with
  | none => exact Looks.now
  | bool b => exact Looks.now
  | int i t => exact Looks.now
  | str x t => exact Looks.now
  | list _ _ _ _ =>
    unfold pureD at p
    cases p
  | dict _ _ _ _ _ =>
    unfold pureD at p
    cases p
  | @tuple a o vs n xs as h1 h2 h3 h4 =>
    have L : Looks M h (typeOf (.ref a)) o.cls := (Looks.ld h1).andThen .now
    rw [h2] at L
    exact L
theorem alike_ty {x y : PyData} (h : alike x y = true) : tyD x = tyD y := by
  cases x <;> cases y <;> first | rfl | exact absurd h (by simp [alike])
/-- what is known of the items: tuples, as k tells, of such data, any two of them alike -/
structure Rows (h : Heap) (vs : List Value) (k : Value → List PyData) : Prop where
  rd : ∀ v ∈ vs, ∃ as, Reads h v (.tuple (k v)) as
  pu : ∀ v ∈ vs, pureAll (k v) = true
  al : ∀ v ∈ vs, ∀ u ∈ vs, alikeAll (k v) (k u) = true
  dp : ∀ v ∈ vs, PyData.depthAll (k v) ≤ 40
abbrev ltD (k : Value → List PyData) (v u : Value) : Bool := PyProof.Rows.lexLt itemOrd (keyToksAll (k v)) (keyToksAll (k u))
theorem ltD_swo (k : Value → List PyData) : SrtO.Swo (ltD k) := by
  refine ⟨fun x y h => ?_, fun x y z h1 h2 => ?_⟩
  · cases e : ltD k y x with
    | false => rfl
    | true =>
      have z := (listOrd itemOrd).trans _ _ _ h e
      rw [(listOrd itemOrd).irrefl] at z
      cases z
  · cases e : ltD k z x with
    | false => rfl
    | true =>
      rcases (listOrd itemOrd).negTrans _ (keyToksAll (k y)) _ e with q | q
      · rw [show ltD k z y = true from q] at h2
        cases h2
      · rw [show ltD k y x = true from q] at h1
        cases h1
theorem Rows.keep {h h' : Heap} {vs : List Value} {k : Value → List PyData} (R : Rows h vs k) (kp : Tups h h') : Rows h' vs k :=
  ⟨fun v hv => by
    obtain ⟨as, r⟩ := R.rd v hv
    exact reads_keep kp _ _ _ (by unfold pureD; exact R.pu v hv) r, R.pu, R.al, R.dp⟩
theorem rows_firsts {h : Heap} : ∀ {vs : List Value} {k : Value → List PyData}, Rows h vs k → ∃ fs, Firsts h vs fs ∧ ∀ f ∈ fs, ∀ g, f = some g → ∃ v ∈ vs, ∃ z r as, k v = z :: r ∧ Reads h g z as
  | [], _, _ => ⟨[], trivial, fun f hf => absurd hf (List.not_mem_nil)⟩
  | v :: vs, k, R => by
    obtain ⟨fs, t, q⟩ := rows_firsts (vs := vs) (k := k) ⟨fun u hu => R.rd u (List.mem_cons_of_mem _ hu), fun u hu => R.pu u (List.mem_cons_of_mem _ hu), fun u hu x hx => R.al u (List.mem_cons_of_mem _ hu) x (List.mem_cons_of_mem _ hx), fun u hu => R.dp u (List.mem_cons_of_mem _ hu)⟩
    obtain ⟨as, r⟩ := R.rd v List.mem_cons_self
    generalize hd : k v = d at r
    cases r with
    | @tuple a o xs n ds as h1 h2 h3 h4 =>
      refine ⟨xs[0]? :: fs, ⟨⟨a, o, xs, n, rfl, h1, h2, h3, rfl⟩, t⟩, fun f hf g e => ?_⟩
      rcases List.mem_cons.mp hf with rfl | hf
      · obtain ⟨xl⟩ := xs
        cases h4 with
        | nil => simp at e
        | @cons v0 vs0 d0 ds0 a0 b0 r1 r2 =>
          have e' : v0 = g := by simpa using e
          subst e'
          exact ⟨.ref a, List.mem_cons_self, _, _, _, hd, r1⟩
      · obtain ⟨u, hu, z⟩ := q f hf g e
        exact ⟨u, List.mem_cons_of_mem _ hu, z⟩
theorem call_tuple_lt {Q : Value → Shared → Prop} {l b : Addr} {items items2 : Array Value} {e r : Nat → Bool} (hl : s.heap.IsTuple l items) (hb : s.heap.IsTuple b items2)
    (he : ∀ j (h1 : j < items.size) (h2 : j < items2.size), EqAt A.in1 s items[j] items2[j] (e j)) (hr : ∀ j (h1 : j < items.size) (h2 : j < items2.size), e j = false → RcLt A.in1 s items[j] items2[j] (r j))
    (h : Q (.bool (firstLt e r (decide (items.size < items2.size)) (List.range (min items.size items2.size)))) s) : wpAny (model prog w) A (call (.builtin "tuple.__lt__") [.ref l, .ref b]) Q E s := by
  obtain ⟨⟨cls, dd, data, sl⟩, ho, hc, n, hd⟩ := id hl
  obtain ⟨⟨cls2, dd2, data2, sl2⟩, ho2, hc2, n2, hd2⟩ := id hb
  simp only at hc hd hc2 hd2
  subst hc hd hc2 hd2
  exact call_meets F.slot_tuple_lt ⟨_, ho, rfl⟩ F.entry_tuple_lt (F.args_tuple_lt_2 _ _) (PySem.SeqAt.tuple_ltAt l b items items2 n n2 dd dd2 sl sl2 e r) ⟨ho, ho2, he, hr, h⟩
theorem one_tup {xs ys : List PyData} {a b : Value} {as bs : List Addr} {Q : Bool → Shared → Prop} (f : Bool) (ra : Reads s.heap a (.tuple xs) as) (rb : Reads s.heap b (.tuple ys) bs) (hal : alikeAll xs ys = true)
    (hu : A.units + min (PyData.tuple xs).depth (PyData.tuple ys).depth < cLine) (hq : Q (PyProof.Rows.lexLt itemOrd (keyToksAll xs) (keyToksAll ys)) s) : wpAny (model prog w) A (oneLt' f a b) Q E s := by
  cases f with
  | false => exact oneLt_alike (fun z => absurd z Bool.false_ne_true) ra rb (by simpa [alike] using hal) (fun z => nomatch z) hu (by rw [dataLt_tuple]; exact hq)
  | true =>
    cases ra with
    | @tuple l o vs n _ as₁ h1 h2 h3 h4 =>
      cases rb with
      | @tuple l' o' vs' n' _ bs₁ k1 k2 k3 k4 =>
        have n1 : vs.size = xs.length := by simpa using ReadsAll.length _ _ _ h4
        have n2 : vs'.size = ys.length := by simpa using ReadsAll.length _ _ _ k4
        rw [← firstLt_toks xs ys hal, ← n1, ← n2] at hq
        rw [oneLt'_eq]
        simp only [if_true]
        refine wpAny_bind (wpAny_cRoomFor (room_here hu) ?_)
        refine wpAny_bind (wpAny_callSpecialIfBound?_slot (T := "tuple") ⟨_, h1, h2⟩ F.slot_tuple_lt (call_tuple_lt (e := pairEq xs ys) (r := fun j => dataLt (xs.getD j .none) (ys.getD j .none)) ⟨_, h1, h2, _, h3⟩ ⟨_, k1, k2, _, k3⟩ (fun j j1 j2 => ?_) (fun j j1 j2 hj => ?_) ?_))
        · have := eqAt_alikeAll xs ys A.in1 s vs.toList vs'.toList _ _ h4 k4 hal (room_in hu) j (by simpa using j1) (by simpa using j2)
          simpa using this
        · have := rcLt_alikeAll xs ys A.in1 s vs.toList vs'.toList _ _ h4 k4 hal (room_in hu) j (by simpa using j1) (by simpa using j2) hj
          simpa using this
        · exact wpAny_truthy_bool hq
theorem dep (xs ys : List PyData) (h : PyData.depthAll xs ≤ 40) : min (PyData.tuple xs).depth (PyData.tuple ys).depth ≤ 41 := by
  have e : (PyData.tuple xs).depth = PyData.depthAll xs + 1 := by first | rfl | simp [PyData.depth]
  omega
theorem cmp_rows {vs : List Value} {k : Value → List PyData} {κ : SortKind} (R : Rows s.heap vs k) (hu : A.units + 64 < cLine) (hk : κ = general' ∨ κ = oneType' ∨ ∃ b, κ = tuples' b ∧ (b = true → ∀ v ∈ vs, ∀ z r t, k v = z :: r → z ≠ .tuple t)) :
    SrtO.Cmp prog w A s κ (fun p => p.1 ∈ vs) (SrtO.lt2 (ltD k)) := by
  intro p q hp hq
  obtain ⟨as, ra⟩ := R.rd _ hp
  obtain ⟨bs, rb⟩ := R.rd _ hq
  have al := R.al _ hp _ hq
  have d := dep (k p.1) (k q.1) (R.dp _ hp)
  rcases hk with rfl | rfl | ⟨b, rfl, hb⟩
  · exact one_tup false ra rb al (by omega) ⟨rfl, rfl⟩
  · exact one_tup true ra rb al (by omega) ⟨rfl, rfl⟩
  · have hf := hb
    generalize hx : k p.1 = xs at ra
    generalize hy : k q.1 = ys at rb
    have dx := R.dp _ hp
    have dl : ltD k p.1 q.1 = PyProof.Rows.lexLt itemOrd (keyToksAll xs) (keyToksAll ys) := by rw [← hx, ← hy]
    rw [hx] at dx al
    rw [hy] at al
    show wpAny (model prog w) A (keyLt' (tuples' b) p.1 q.1) (fun r s' => s' = s ∧ r = ltD k p.1 q.1) (fun _ _ => False) s
    rw [dl]
    have hfp := fun (z : b = true) => hf z p.1 hp
    generalize p.1 = pv at ra hfp hx
    generalize q.1 = qv at rb hy
    cases ra with
    | @tuple l o vs n _ as₁ h1 h2 h3 h4 =>
      cases rb with
      | @tuple l' o' vs' n' _ bs₁ k1 k2 k3 k4 =>
        have n1 : vs.size = xs.length := by simpa using ReadsAll.length _ _ _ h4
        have n2 : vs'.size = ys.length := by simpa using ReadsAll.length _ _ _ k4
        refine kat_lt h1 h3 k1 k3 ?_
        refine katLex_alike xs ys 0 _ _ _ _ h4 k4 al (by omega) (fun z _ x r t e => hfp z x r t (by rw [hx, e])) (by rw [n1, n2]) ⟨rfl, rfl⟩
theorem rows_sortable {a : Addr} {vs : List Value} {k : Value → List PyData} (R : Rows s.heap vs k) (hu : A.units + 64 < cLine) (h0 : 0 < vs.length) (ha : ∀ o, s.heap.get? a = some o → o.cls ≠ .type "tuple") : SrtO.SortableO prog w A s a vs (ltD k) := by
  intro h' keep
  have R' : Rows h' vs k := R.keep fun b o e c => keep b o (fun z => by subst z; exact ha o e c) e
  obtain ⟨fs, t, q⟩ := rows_firsts R'
  cases e : (fs.toArray.all fun x => x.isSome) with
  | false =>
    have hne : ∃ κ, (κ = general' ∨ κ = oneType') ∧ ∀ (Q : SortKind → Shared → Prop) (E : Value → Shared → Prop), Q κ { s with heap := h' } → wpAny (model prog w) A (keyKind' vs.toArray) Q E { s with heap := h' } := by
      by_cases c : (fs.toArray[0]?.bind id).isSome = true
      · refine ⟨general', .inl rfl, fun Q E hq => ?_⟩
        rw [kat_kind_eq, List.mapM_toArray, map_eq_pure_bind]
        refine wpAny_bind (wpAny_bind (firsts_run vs _ t (wpAny_pure ?_)))
        rw [if_neg (by rw [e]; exact Bool.false_ne_true), if_pos c]
        exact wpAny_pure hq
      · refine ⟨oneType', .inr rfl, fun Q E hq => ?_⟩
        rw [kat_kind_eq, List.mapM_toArray, map_eq_pure_bind]
        refine wpAny_bind (wpAny_bind (firsts_run vs _ t (wpAny_pure ?_)))
        rw [if_neg (by rw [e]; exact Bool.false_ne_true), if_neg c]
        rw [oneTypeOnly'_eq, List.mapM_toArray, map_eq_pure_bind]
        refine wpAny_bind (wpAny_bind (wpAny_bind (kas_mapM (r := Value.type "tuple") _ (fun v hv Q' hq => (firsts_typ (s := { s with heap := h' }) t v hv).here hq) (wpAny_pure ?_))))
        obtain ⟨v1, vr, rfl⟩ : ∃ v1 vr, vs = v1 :: vr := by
          match vs, h0 with
          | v1 :: vr, _ => exact ⟨v1, vr, rfl⟩
        have hall : ((List.map (fun _ => Value.type "tuple") (v1 :: vr)).toArray.all fun x => x == Value.type "tuple") = true := by
          simp only [List.all_toArray, List.all_map, List.all_eq_true]
          intro _ _
          exact (by rfl : (Value.type "tuple" == Value.type "tuple") = true)
        have hz : (List.map (fun _ => Value.type "tuple") (v1 :: vr)).toArray[0]? = some (Value.type "tuple") := by simp
        rw [hz]
        simp only [hall, if_true]
        exact wpAny_pure (wpAny_pure hq)
    obtain ⟨κ, hκ, run⟩ := hne
    exact ⟨κ, run, cmp_rows (s := { s with heap := h' }) R' hu (by rcases hκ with z | z; exact .inl z; exact .inr (.inl z))⟩
  | true =>
    obtain ⟨gs, rfl, kt⟩ := kat_of (s := { s with heap := h' }) t e
    have lg : gs.length = vs.length := by
      have l : ∀ {us : List Value} {gs : List Value}, KatTups h' us gs → gs.length = us.length := by
        intro us
        induction us with
        | nil =>
          intro gs t
          cases gs with
          | nil => rfl
          | cons _ _ => exact t.elim
        | cons u us ih =>
          intro gs t
          cases gs with
          | nil => exact t.elim
          | cons g gs => rw [List.length_cons, List.length_cons, ih t.2]
      exact l kt
    obtain ⟨g1, gr, rfl⟩ : ∃ g1 gr, gs = g1 :: gr := by
      match gs, (show 0 < gs.length by omega) with
      | g1 :: gr, _ => exact ⟨g1, gr, rfl⟩
    obtain ⟨v1, hv1, z1, r1, as1, e1, rd1⟩ := q (some g1) (by simp) g1 rfl
    have same : ∀ v ∈ vs, ∀ z r, k v = z :: r → tyD z = tyD z1 := fun v hv z r ez => by
      have a := R.al v hv v1 hv1
      rw [ez, e1] at a
      exact alike_ty (alike_all_cons a).1
    refine ⟨tuples' (Value.type (tyD z1) != Value.type "tuple"), fun Q E hq => ?_, cmp_rows (s := { s with heap := h' }) R' hu (.inr (.inr ⟨_, rfl, fun hb v hv z r t ez c => ?_⟩))⟩
    · refine kat_kind (T := .type (tyD z1)) kt (by simp) (fun f hf => ?_) (by simp) hq
      obtain ⟨v, hv, z, r, as, ez, rz⟩ := q (some f) (List.mem_map.mpr ⟨f, hf, rfl⟩) f rfl
      rw [← same v hv z r ez]
      refine look_ty ?_ rz
      have p := R.pu v hv
      rw [ez] at p
      unfold pureAll at p
      exact (Bool.and_eq_true _ _ ▸ p).1
    · have w := same v hv z r ez
      rw [c] at w
      rw [← w] at hb
      exact absurd hb (show ¬ ((Value.type "tuple" != Value.type "tuple") = true) by decide)
end
/-- x before y, as Python orders these tuples -/
abbrev ltV (k : V → List PyData) (x y : V) : Bool := PyProof.Rows.lexLt itemOrd (keyToksAll (k x)) (keyToksAll (k y))
theorem ltV_swo (k : V → List PyData) : SrtO.Swo (ltV k) := by
  refine ⟨fun x y h => ?_, fun x y z h1 h2 => ?_⟩
  · cases e : ltV k y x with
    | false => rfl
    | true =>
      have z := (listOrd itemOrd).trans _ _ _ h e
      rw [(listOrd itemOrd).irrefl] at z
      cases z
  · cases e : ltV k z x with
    | false => rfl
    | true =>
      rcases (listOrd itemOrd).negTrans _ (keyToksAll (k y)) _ e with q | q
      · rw [show ltV k z y = true from q] at h2
        cases h2
      · rw [show ltV k y x = true from q] at h1
        cases h1
/-- sorted(xs), xs a list of tuples (k tells them) of numbers, texts, tuples of these, any two of them alike: a new list, sorted, equal ones in their order -/
def rSortD (K : PySem.W.Frag) : List V → Hp → VK → Prop := fun vs H Q => ∃ (a : Addr) (xs : List V) (k : V → List PyData), vs = [V.ref a] ∧ SqL K H a xs ∧ (∀ x ∈ xs, (∃ t, x = V.ref t) ∧ Dp K H x (.tuple (k x)) ∧ pureAll (k x) = true ∧ PyData.depthAll (k x) ≤ 40) ∧
  (∀ x ∈ xs, ∀ y ∈ xs, alikeAll (k x) (k y) = true) ∧ ∀ ys p, SrtO.Srtd (ltV k) ys → SrtO.Stb (ltV k) ys xs → H p = none → Q (.ref p) (upd H p (.lst ys))
section
variable {X : Cx}
theorem cr_sortD (hu : X.A.units + 66 < cLine) : CallR X (.builtin "sorted") (rSortD X.K) := by
  intro pins s σ H vs us Q I r h
  obtain ⟨a, xs, k, rfl, hs, hx, al, q⟩ := h
  obtain ⟨its, rv, hl, hz⟩ := I.list hs
  obtain ⟨u, rfl, ru⟩ := vals1 r
  obtain rfl : u = Value.ref a := ru
  obtain ⟨e1, e2⟩ := refs_back rv fun x m => (hx x m).1
  have back : ∀ v ∈ its, backV v ∈ xs := fun v hv => by
    rw [e1]
    exact List.mem_map.mpr ⟨_, hv, rfl⟩
  have R : Rows s.heap its (fun u => k (backV u)) := ⟨fun v hv => by
      obtain ⟨t, rfl⟩ := e2 v hv
      exact Dp.reads I _ (backV (.ref t)) (.ref t) (hx _ (back _ hv)).2.1 rfl, fun v hv => (hx _ (back v hv)).2.2.1, fun v hv u hu => al _ (back v hv) _ (back u hu), fun v hv => (hx _ (back v hv)).2.2.2⟩
  refine SrtO.sorted_ord (ltv := ltD fun u => k (backV u)) (ltD_swo _) hl.isList (by rw [← rv.length]; exact hz) (fun h2 h₁ b hb kk => ?_) fun out h1 h2 => ?_
  · refine rows_sortable (s := { s with heap := h₁ }) (R.keep fun c o e _ => (kk c o e).2) (by show X.A.units + 1 + 1 + 64 < cLine; omega) (by omega) fun o e => ?_
    have e' : some o = some (seqObj "list" its.toArray 0) := e.symm.trans hb
    cases e'
    intro c
    exact absurd (Value.type.inj c) (by decide)
  · have h3 : ∀ u ∈ out, ∃ a, u = Value.ref a := fun u hu => e2 u (h2.perm.mem_iff.mp hu)
    obtain ⟨n, hn⟩ := PyProof.Rows.sortedAll_at s.heap its out.toArray
    have hb : SrtO.Stb (ltV k) (out.map backV) xs := by
      rw [e1]
      exact SrtO.Stb.map (ltV_swo k) backV h2
    refine ⟨.ref (s.heap.objs.size + 1), upd H (s.heap.objs.size + 1) (.lst (out.map backV)), I.laid (t' := s.toks) (fun b o e => PyProof.Rows.sortedAll_old e) (Nat.le_succ _) ⟨?_, out, n, vals_back h3, hn⟩, rfl, q _ _ (SrtO.srtd_map h1) hb (I.hok.fresh (Nat.le_succ _))⟩
    rw [hb.len]
    exact hz
end
end NmD
namespace Nm
open PySem PySem.Spec PyProof.Rows L2 NmD
/-! ### rows of words as data -/
abbrev rowL (ws : List Str) : List PyData := ws.map PyData.str
theorem rowL_nil : rowL [] = [] := rfl
theorem rowL_cons (w : Str) (ws : List Str) : rowL (w :: ws) = PyData.str w :: rowL ws := rfl
abbrev rowD (ws : List Str) : PyData := .tuple (rowL ws)
theorem dpAll_row {K : PySem.W.Frag} {H : Hp} : ∀ ws : List Str, DpAll K H (ws.map V.str) (rowL ws)
  | [] => .nil
  | w :: ws => .cons (.str w) (dpAll_row ws)
theorem dp_row {K : PySem.W.Frag} {H : Hp} {a : Addr} {ws : List Str} (h : H a = some (.tup (ws.map V.str))) : Dp K H (.ref a) (rowD ws) := .tup (SqT.of h) (dpAll_row ws)
theorem eqv_rowL : ∀ a b : List Str, PyData.eqvAll (rowL a) (rowL b) = decide (a = b)
  | [], [] => by simp [PyData.eqvAll]
  | [], _ :: _ => by simp [PyData.eqvAll]
  | _ :: _, [] => by simp [PyData.eqvAll]
  | x :: a, y :: b => by
    have ih := eqv_rowL a b
    rw [rowL_cons, rowL_cons, PyData.eqvAll, ih, PyData.eqv]
    by_cases h : x = y
    · subst h
      simp
    · simp [h]
theorem eqv_row (a b : List Str) : PyData.eqv (rowD a) (rowD b) = decide (a = b) := by rw [PyData.eqv, eqv_rowL]
theorem depth_rowL : ∀ ws : List Str, PyData.depthAll (rowL ws) = 0
  | [] => by simp [PyData.depthAll]
  | w :: ws => by
    rw [rowL_cons, PyData.depthAll, depth_rowL ws, PyData.depth]
    rfl
theorem lay_rowL : ∀ ws : List Str, (∀ z ∈ ws, PyData.canLay0 (.str z) = true) → PyData.canLayAll0 (rowL ws) = true
  | [], _ => by simp [PyData.canLayAll0]
  | w :: ws, h => by
    rw [rowL_cons, PyData.canLayAll0, h w List.mem_cons_self, lay_rowL ws fun z hz => h z (List.mem_cons_of_mem _ hz)]
    rfl
theorem shaped_row {ws : List Str} (h : ∀ z ∈ ws, PyData.canLay0 (.str z) = true) : SeqAt.shaped (rowD ws) = true := by
  unfold SeqAt.shaped
  rw [PyData.canLay0, lay_rowL ws h, PyData.depth, depth_rowL]
  decide
theorem pure_rowL : ∀ ws : List Str, pureAll (rowL ws) = true
  | [] => by simp [pureAll]
  | w :: ws => by
    rw [rowL_cons, pureAll, pure_rowL ws, pureD]
    rfl
theorem alike_rowL : ∀ a b : List Str, PySem.W.alikeAll (rowL a) (rowL b) = true
  | [], [] => by simp [PySem.W.alikeAll]
  | [], _ :: _ => by simp [PySem.W.alikeAll]
  | _ :: _, [] => by simp [PySem.W.alikeAll]
  | x :: a, y :: b => by
    rw [rowL_cons, rowL_cons, PySem.W.alikeAll, alike_rowL a b, PySem.W.alike]
    rfl
abbrev rowLt (a b : List Str) : Bool := PyProof.Rows.lexLt itemOrd (PySem.W.keyToksAll (rowL a)) (PySem.W.keyToksAll (rowL b))
theorem row_pre : ∀ (p a b : List Str), rowLt (p ++ a) (p ++ b) = rowLt a b
  | [], a, b => rfl
  | w :: p, a, b => by
    have ih := row_pre p a b
    unfold rowLt at ih ⊢
    rw [List.cons_append, List.cons_append, rowL_cons, rowL_cons, PySem.W.toks_all_cons, PySem.W.toks_all_cons, lex_self, PySem.W.lex_pre]
    exact ih
/-- a row comes before each that begins with it -/
theorem row_more (a : List Str) (w : Str) : rowLt a (a ++ [w]) = true := by
  have h := row_pre a [] [w]
  rw [List.append_nil] at h
  rw [h]
  unfold rowLt
  rw [rowL_nil, rowL_cons, PySem.W.toks_all_cons]
  simp only [PySem.W.keyToksAll]
  rw [lex_diff (O := itemOrd) (by simp)]
  rfl
/-! ### pieces of tuples -/
theorem sl_last {K : PySem.W.Frag} {H : Hp} {a : Addr} {xs : List V} {Q : VK} (h : H a = some (.tup xs)) (q : ∀ r H', Same H H' → H' r = some (.tup xs.dropLast) → Q (.ref r) H') : rSlA K (.ref a) none (some (-1)) H Q := by
  have s1 : HT.sIx xs.length xs.length (some (-1)) = xs.length - 1 := by
    show (if (-1 : Int) < 0 then ((-1 : Int) + (xs.length : Int)).toNat else min (-1 : Int).toNat xs.length) = xs.length - 1
    rw [if_pos (by decide)]
    omega
  refine ⟨a, xs, rfl, SqT.of h, fun z => ?_, fun z p hp => ?_⟩
  · have e := z.2
    rw [s1] at e
    have : xs = [] := List.eq_nil_of_length_eq_zero (by omega)
    subst this
    exact q a H (Same.refl H) h
  · refine q p _ (same_new hp) ?_
    rw [upd_same]
    unfold cutV
    rw [s1, HT.sIx_none, List.drop_zero, Nat.sub_zero, List.dropLast_eq_take]
theorem sl_take {K : PySem.W.Frag} {H : Hp} {a : Addr} {xs : List V} {k : Nat} {Q : VK} (h : H a = some (.tup xs)) (q : ∀ r H', Same H H' → H' r = some (.tup (xs.take k)) → Q (.ref r) H') : rSlA K (.ref a) none (some (k : Int)) H Q := by
  refine ⟨a, xs, rfl, SqT.of h, fun z => ?_, fun z p hp => ?_⟩
  · have e := z.2
    rw [HT.sIx_nat] at e
    refine q a H (Same.refl H) ?_
    rw [List.take_of_length_le (by omega)]
    exact h
  · refine q p _ (same_new hp) ?_
    rw [upd_same]
    unfold cutV
    rw [HT.sIx_nat, HT.sIx_none, List.drop_zero, Nat.sub_zero]
    by_cases c : k ≤ xs.length
    · rw [Nat.min_eq_left c]
    · rw [Nat.min_eq_right (by omega), List.take_of_length_le (Nat.le_refl _), List.take_of_length_le (by omega)]
theorem cat_tups {K : PySem.W.Frag} {H : Hp} {a b : Addr} {xs ys : List V} {Q : VK} (ha : H a = some (.tup xs)) (hb : H b = some (.tup ys)) (l : xs.length + ys.length ≤ 4000) (q : ∀ r H', Same H H' → H' r = some (.tup (xs ++ ys)) → Q (.ref r) H') : rCatA K (.ref a) (.ref b) H Q := by
  have b4 : (4000 : Nat) ≤ PySem.sizeLine := by decide
  refine ⟨a, b, xs, ys, rfl, rfl, SqT.of ha, SqT.of hb, by omega, fun e => ?_, fun _ e => ?_, fun _ _ p hp => q p _ (same_new hp) upd_same⟩
  · subst e
    exact q b H (Same.refl H) hb
  · subst e
    refine q a H (Same.refl H) ?_
    rw [List.append_nil]
    exact ha
/-! ### pairs of numbers -/
abbrev Pr := Int × Int
abbrev prD (p : Pr) : PyData := .tuple [.int p.1, .int p.2]
abbrev prsD (ps : List Pr) : PyData := .list (ps.map prD)
def PrAt (H : Hp) (x : V) (p : Pr) : Prop := ∃ t, x = .ref t ∧ H t = some (.tup [.int p.1, .int p.2])
theorem PrAt.mono {H H' : Hp} (k : ∀ a xs, H a = some (.tup xs) → H' a = some (.tup xs)) {x : V} {p : Pr} (h : PrAt H x p) : PrAt H' x p := by
  obtain ⟨t, e, h1⟩ := h
  exact ⟨t, e, k _ _ h1⟩
/-- a list of pairs -/
def PrsAt (H : Hp) (a : Addr) (ps : List Pr) : Prop := ∃ xs, H a = some (.lst xs) ∧ Paired (PrAt H) xs ps
theorem PrsAt.same {H H' : Hp} (g : Same H H') {a : Addr} {ps : List Pr} (h : PrsAt H a ps) : PrsAt H' a ps := by
  obtain ⟨xs, h1, h2⟩ := h
  exact ⟨xs, g _ _ h1, paired_mono (fun _ _ => PrAt.mono (same_tups g)) h2⟩
theorem dp_pr {K : PySem.W.Frag} {H : Hp} {x : V} {p : Pr} (h : PrAt H x p) : Dp K H x (prD p) := by
  obtain ⟨t, rfl, h1⟩ := h
  exact .tup (SqT.of h1) (.cons (.int _) (.cons (.int _) .nil))
theorem dp_prsL {K : PySem.W.Frag} {H : Hp} : ∀ {xs : List V} {ps : List Pr}, Paired (PrAt H) xs ps → DpAll K H xs (ps.map prD)
  | _, _, .nil => .nil
  | _, _, .cons h t => .cons (dp_pr h) (dp_prsL t)
theorem dp_prs {K : PySem.W.Frag} {H : Hp} {a : Addr} {ps : List Pr} (h : PrsAt H a ps) : Dp K H (.ref a) (prsD ps) := by
  obtain ⟨xs, h1, h2⟩ := h
  exact .lst (SqL.of h1) (dp_prsL h2)
theorem eqv_pr (p q : Pr) : PyData.eqv (prD p) (prD q) = decide (p = q) := by
  obtain ⟨a, b⟩ := p
  obtain ⟨c, d⟩ := q
  simp only [PyData.eqv, PyData.eqvAll]
  by_cases h1 : a = c <;> by_cases h2 : b = d <;> simp [h1, h2]
theorem eqv_prsL : ∀ ps qs : List Pr, PyData.eqvAll (ps.map prD) (qs.map prD) = decide (ps = qs)
  | [], [] => by simp [PyData.eqvAll]
  | [], _ :: _ => by simp [PyData.eqvAll]
  | _ :: _, [] => by simp [PyData.eqvAll]
  | p :: ps, q :: qs => by
    rw [List.map_cons, List.map_cons, PyData.eqvAll, eqv_prsL ps qs, eqv_pr]
    by_cases h1 : p = q <;> by_cases h2 : ps = qs <;> simp [h1, h2]
theorem eqv_prs (ps qs : List Pr) : PyData.eqv (prsD ps) (prsD qs) = decide (ps = qs) := by rw [PyData.eqv, eqv_prsL]
theorem any_pr (q : Pr) : ∀ ps : List Pr, ((ps.map prD).any fun z => PyData.eqv z (prD q)) = decide (q ∈ ps)
  | [] => by simp
  | p :: ps => by
    rw [List.map_cons, List.any_cons, any_pr q ps, eqv_pr]
    by_cases h : p = q
    · subst h
      simp
    · have h' : ¬ q = p := fun z => h z.symm
      simp [h, h']
theorem shaped_pr (p : Pr) : SeqAt.shaped (prD p) = true := by
  unfold SeqAt.shaped
  simp [PyData.canLay0, PyData.canLayAll0, PyData.depth, PyData.depthAll]
theorem lay_prsL : ∀ ps : List Pr, PyData.canLayAll0 (ps.map prD) = true ∧ PyData.depthAll (ps.map prD) ≤ 1
  | [] => by simp [PyData.canLayAll0, PyData.depthAll]
  | p :: ps => by
    obtain ⟨h1, h2⟩ := lay_prsL ps
    rw [List.map_cons, PyData.canLayAll0, h1, PyData.depthAll]
    refine ⟨by simp [PyData.canLay0, PyData.canLayAll0], ?_⟩
    have e : PyData.depth (prD p) ≤ 1 := by simp [PyData.depth, PyData.depthAll]
    omega
theorem shaped_prs (ps : List Pr) : SeqAt.shaped (prsD ps) = true := by
  unfold SeqAt.shaped
  obtain ⟨h1, h2⟩ := lay_prsL ps
  rw [PyData.canLay0, h1, PyData.depth, Bool.true_and]
  exact decide_eq_true (by omega)
end Nm
namespace Nm
open PySem PySem.Spec PyProof.Rows L2
theorem u65 {k : Nat} {A : Around} (r : Room k A) : A.units + 65 < cLine := by
  have := r.un
  omega
theorem u66 {k : Nat} {A : Around} (r : Room k A) : A.units + 66 < cLine := by
  have := r.un
  omega
/-! ### all pairs i < j with f, row by row -/
def rowUp (f : Nat → Nat → Bool) (i k : Nat) : List Pr := (((List.range k).map fun d => i + 1 + d).filter (f i)).map fun (j : Nat) => ((i : Int), (j : Int))
def pairsUp (f : Nat → Nat → Bool) (n m : Nat) : List Pr := (List.range m).flatMap fun i => rowUp f i (n - (i + 1))
abbrev pairsOf (f : Nat → Nat → Bool) (n : Nat) : List Pr := pairsUp f n n
theorem rowUp_one (f : Nat → Nat → Bool) (i k : Nat) : rowUp f i (k + 1) = rowUp f i k ++ (if f i (i + 1 + k) = true then [((i : Int), ((i + 1 + k : Nat) : Int))] else []) := by
  unfold rowUp
  rw [List.range_succ, List.map_append, List.filter_append, List.map_append]
  congr 1
  by_cases h : f i (i + 1 + k) = true
  · rw [if_pos h, List.map_singleton, List.filter_cons_of_pos h]
    rfl
  · rw [if_neg h, List.map_singleton, List.filter_cons_of_neg h]
    rfl
theorem pairsUp_one (f : Nat → Nat → Bool) (n m : Nat) : pairsUp f n (m + 1) = pairsUp f n m ++ rowUp f m (n - (m + 1)) := by
  unfold pairsUp
  rw [List.range_succ, List.flatMap_append]
  simp
theorem mem_rowUp {f : Nat → Nat → Bool} {i k : Nat} {p : Pr} : p ∈ rowUp f i k ↔ ∃ j : Nat, p = ((i : Int), (j : Int)) ∧ i < j ∧ j < i + 1 + k ∧ f i j = true := by
  unfold rowUp
  rw [List.mem_map]
  constructor
  · rintro ⟨j, hj, rfl⟩
    obtain ⟨h1, h2⟩ := List.mem_filter.mp hj
    obtain ⟨d, hd, rfl⟩ := List.mem_map.mp h1
    have := List.mem_range.mp hd
    exact ⟨_, rfl, by omega, by omega, h2⟩
  · rintro ⟨j, rfl, h1, h2, h3⟩
    exact ⟨j, List.mem_filter.mpr ⟨List.mem_map.mpr ⟨j - (i + 1), List.mem_range.mpr (by omega), by omega⟩, h3⟩, rfl⟩
theorem mem_pairsUp {f : Nat → Nat → Bool} {n m : Nat} {p : Pr} : p ∈ pairsUp f n m ↔ ∃ i j : Nat, p = ((i : Int), (j : Int)) ∧ i < j ∧ j < n ∧ i < m ∧ f i j = true := by
  unfold pairsUp
  rw [List.mem_flatMap]
  constructor
  · rintro ⟨i, hi, hp⟩
    obtain ⟨j, e, h1, h2, h3⟩ := mem_rowUp.mp hp
    exact ⟨i, j, e, h1, by omega, List.mem_range.mp hi, h3⟩
  · rintro ⟨i, j, rfl, h1, h2, h3, h4⟩
    exact ⟨i, List.mem_range.mpr h3, mem_rowUp.mpr ⟨j, rfl, h1, by omega, h4⟩⟩
theorem rowUp_congr {f g : Nat → Nat → Bool} {i k : Nat} (h : ∀ j, i < j → j < i + 1 + k → f i j = g i j) : rowUp f i k = rowUp g i k := by
  unfold rowUp
  congr 1
  refine List.filter_congr fun j hj => ?_
  obtain ⟨d, hd, rfl⟩ := List.mem_map.mp hj
  have := List.mem_range.mp hd
  exact h _ (by omega) (by omega)
theorem flat_congr {α β : Type} {f g : α → List β} : ∀ {l : List α}, (∀ x ∈ l, f x = g x) → l.flatMap f = l.flatMap g
  | [], _ => rfl
  | x :: l, h => by rw [List.flatMap_cons, List.flatMap_cons, h x List.mem_cons_self, flat_congr fun y hy => h y (List.mem_cons_of_mem _ hy)]
theorem pairsOf_congr {f g : Nat → Nat → Bool} {n : Nat} (h : ∀ i j, i < j → j < n → f i j = g i j) : pairsOf f n = pairsOf g n := by
  refine flat_congr fun i hi => rowUp_congr fun j h1 h2 => ?_
  exact h i j h1 (by omega)
theorem filter_rowUp (f : Nat → Nat → Bool) (c : Pr → Bool) (i k : Nat) : (rowUp f i k).filter c = rowUp (fun (i j : Nat) => f i j && c ((i : Int), (j : Int))) i k := by
  unfold rowUp
  rw [List.filter_map, List.filter_filter]
  congr 1
  refine List.filter_congr fun j _ => ?_
  show (c ((i : Int), (j : Int)) && f i j) = (f i j && c ((i : Int), (j : Int)))
  exact Bool.and_comm _ _
theorem filter_flat {α β : Type} (c : β → Bool) (f : α → List β) : ∀ l : List α, (l.flatMap f).filter c = l.flatMap fun x => (f x).filter c
  | [] => rfl
  | x :: l => by rw [List.flatMap_cons, List.flatMap_cons, List.filter_append, filter_flat c f l]
theorem filter_pairsOf (f : Nat → Nat → Bool) (c : Pr → Bool) (n : Nat) : (pairsOf f n).filter c = pairsOf (fun (i j : Nat) => f i j && c ((i : Int), (j : Int))) n := by
  unfold pairsOf pairsUp
  rw [filter_flat]
  exact flat_congr fun i _ => filter_rowUp f c i _
theorem rowUp_none {f : Nat → Nat → Bool} {i k : Nat} (h : ∀ j, i < j → j < i + 1 + k → f i j = false) : rowUp f i k = [] := by
  refine List.eq_nil_iff_forall_not_mem.mpr fun p hp => ?_
  obtain ⟨j, _, h1, h2, h3⟩ := mem_rowUp.mp hp
  rw [h j h1 h2] at h3
  cases h3
theorem rowUp_less {f : Nat → Nat → Bool} {i : Nat} : ∀ {k l : Nat}, l ≤ k → (∀ j, i + 1 + l ≤ j → j < i + 1 + k → f i j = false) → rowUp f i k = rowUp f i l
  | 0, l, h, _ => by
    have : l = 0 := by omega
    subst this
    rfl
  | k + 1, l, h, hf => by
    by_cases e : l = k + 1
    · rw [e]
    · rw [rowUp_one, rowUp_less (k := k) (l := l) (by omega) fun j h1 h2 => hf j h1 (by omega), hf (i + 1 + k) (by omega) (by omega)]
      simp
/-- of a joined hall: the first ones -/
theorem first_pairs (f : Nat → Nat → Bool) (n m : Nat) : (pairsOf f (n + m)).filter (fun p => decide (p.2 < (n : Int))) = pairsOf f n := by
  rw [filter_pairsOf]
  unfold pairsOf pairsUp
  rw [List.range_add, List.flatMap_append]
  have z : (List.map (fun x => n + x) (List.range m)).flatMap (fun i => rowUp (fun (i j : Nat) => f i j && decide (((i : Int), (j : Int)).2 < (n : Int))) i (n + m - (i + 1))) = [] := by
    refine List.eq_nil_iff_forall_not_mem.mpr fun p hp => ?_
    obtain ⟨i, hi, hp⟩ := List.mem_flatMap.mp hp
    obtain ⟨x, _, rfl⟩ := List.mem_map.mp hi
    obtain ⟨j, _, h1, h2, h3⟩ := mem_rowUp.mp hp
    rw [Bool.and_eq_true] at h3
    have := of_decide_eq_true h3.2
    have : (j : Int) < (n : Int) := this
    omega
  rw [z, List.append_nil]
  refine flat_congr fun i hi => ?_
  have hi' := List.mem_range.mp hi
  rw [rowUp_less (k := n + m - (i + 1)) (l := n - (i + 1)) (by omega) fun j h1 h2 => by
    rw [decide_eq_false (show ¬ ((j : Int) < (n : Int)) by omega), Bool.and_false]]
  refine rowUp_congr fun j h1 h2 => ?_
  rw [decide_eq_true (show ((j : Int) < (n : Int)) by omega), Bool.and_true]
/-- of a joined hall: the last ones, numbered anew -/
theorem last_pairs (f g : Nat → Nat → Bool) (n m : Nat) (h : ∀ i j, f (n + i) (n + j) = g i j) : ((pairsOf f (n + m)).filter (fun p => decide ((n : Int) ≤ p.1))).map (fun p => (p.1 - (n : Int), p.2 - (n : Int))) = pairsOf g m := by
  rw [filter_pairsOf]
  unfold pairsOf pairsUp
  rw [List.range_add, List.flatMap_append]
  have z : (List.range n).flatMap (fun i => rowUp (fun (i j : Nat) => f i j && decide ((n : Int) ≤ ((i : Int), (j : Int)).1)) i (n + m - (i + 1))) = [] := by
    refine List.eq_nil_iff_forall_not_mem.mpr fun p hp => ?_
    obtain ⟨i, hi, hp⟩ := List.mem_flatMap.mp hp
    obtain ⟨j, _, h1, h2, h3⟩ := mem_rowUp.mp hp
    rw [Bool.and_eq_true] at h3
    have := of_decide_eq_true h3.2
    have : (n : Int) ≤ (i : Int) := this
    have := List.mem_range.mp hi
    omega
  rw [z, List.nil_append, List.map_flatMap, List.flatMap_map]
  refine flat_congr fun i hi => ?_
  have e : n + m - (n + i + 1) = m - (i + 1) := by omega
  rw [e]
  unfold rowUp
  rw [List.map_map]
  have r : (List.range (m - (i + 1))).map (fun d => n + i + 1 + d) = ((List.range (m - (i + 1))).map (fun d => i + 1 + d)).map (fun j => n + j) := by
    rw [List.map_map]
    refine List.map_congr_left fun d _ => ?_
    show n + i + 1 + d = n + (i + 1 + d)
    omega
  rw [r, List.filter_map, List.map_map]
  have c : List.filter ((fun (j : Nat) => f (n + i) j && decide ((n : Int) ≤ (((n + i : Nat) : Int), (j : Int)).1)) ∘ fun j => n + j) ((List.range (m - (i + 1))).map fun d => i + 1 + d) = List.filter (g i) ((List.range (m - (i + 1))).map fun d => i + 1 + d) := by
    refine List.filter_congr fun j _ => ?_
    show (f (n + i) (n + j) && decide ((n : Int) ≤ ((n + i : Nat) : Int))) = g i j
    rw [decide_eq_true (show (n : Int) ≤ ((n + i : Nat) : Int) by omega), Bool.and_true, h]
  rw [c]
  refine List.map_congr_left fun j _ => ?_
  show ((((n + i : Nat) : Int) - (n : Int)), (((n + j : Nat) : Int) - (n : Int))) = ((i : Int), (j : Int))
  rw [show (((n + i : Nat) : Int) - (n : Int)) = (i : Int) by omega, show (((n + j : Nat) : Int) - (n : Int)) = (j : Int) by omega]
/-! ### boards that are pairs -/
def rowExt (a b : List Str) : Bool := decide (b.dropLast = a) && decide (b.length = a.length + 1)
/-- one longer by a word that the longer one's master has played -/
def extOk (b c : Bd) : Bool := rowExt b.2.2 c.2.2 && !decide ((b.2.2.length : Int) % 2 = c.2.1)
def arePair (b c : Bd) : Bool := decide (b.1 = c.1) && (!decide (b.2.1 = c.2.1) && (decide (b.2.2 = c.2.2) || (extOk b c || extOk c b)))
def areApart (b c : Bd) : Bool := decide (b.1 = c.1) && (!decide (b.2.1 = c.2.1) && (rowExt b.2.2 c.2.2 || rowExt c.2.2 b.2.2))
def onB (f : Bd → Bd → Bool) (bs : List Bd) (i j : Nat) : Bool := match bs[i]?, bs[j]? with
  | some b, some c => f b c
  | _, _ => false
theorem onB_at {f : Bd → Bd → Bool} {bs : List Bd} {i j : Nat} {b c : Bd} (h1 : bs[i]? = some b) (h2 : bs[j]? = some c) : onB f bs i j = f b c := by
  unfold onB
  rw [h1, h2]
def turnB (b : Bd) : Bd := (b.1, 1 - b.2.1, b.2.2)
def sideOk (b : Bd) : Prop := b.2.1 = 0 ∨ b.2.1 = 1
theorem ext_ne {a b : List Str} (h : rowExt a b = true) : ¬ a = b := by
  unfold rowExt at h
  rw [Bool.and_eq_true] at h
  intro e
  subst e
  have := of_decide_eq_true h.2
  omega
theorem ext_one {a b : List Str} (h : rowExt a b = true) : rowExt b a = false := by
  unfold rowExt at h ⊢
  rw [Bool.and_eq_true] at h
  have := of_decide_eq_true h.2
  rw [decide_eq_false (show ¬ (a.length = b.length + 1) by omega), Bool.and_false]
theorem sideB {x : Int} {l : Nat} (h : x = 0 ∨ x = 1) : (decide ((l : Int) % 2 = 1 - x)) = !decide ((l : Int) % 2 = x) := by
  by_cases e : (l : Int) % 2 = x
  · rw [decide_eq_true e, decide_eq_false (show ¬ ((l : Int) % 2 = 1 - x) by omega)]
    rfl
  · rw [decide_eq_false e, decide_eq_true (show ((l : Int) % 2 = 1 - x) by omega)]
    rfl
theorem unlike_turn {b c : Bd} : decide ((turnB b).2.1 = (turnB c).2.1) = decide (b.2.1 = c.2.1) := by
  show decide (1 - b.2.1 = 1 - c.2.1) = decide (b.2.1 = c.2.1)
  by_cases e : b.2.1 = c.2.1
  · rw [decide_eq_true e, decide_eq_true (by omega)]
  · rw [decide_eq_false e, decide_eq_false (by omega)]
/-- turned about: those that begin alike are the same, of those one word apart just the others -/
theorem turn_pair {b c : Bd} (hb : sideOk b) (hc : sideOk c) : (areApart b c = false → arePair (turnB b) (turnB c) = arePair b c) ∧ (areApart b c = true → arePair (turnB b) (turnB c) = !arePair b c) := by
  have ub := unlike_turn (b := b) (c := c)
  have e1 : extOk (turnB b) (turnB c) = (rowExt b.2.2 c.2.2 && decide ((b.2.2.length : Int) % 2 = c.2.1)) := by
    show (rowExt b.2.2 c.2.2 && !decide ((b.2.2.length : Int) % 2 = 1 - c.2.1)) = _
    rw [sideB hc, Bool.not_not]
  have e2 : extOk (turnB c) (turnB b) = (rowExt c.2.2 b.2.2 && decide ((c.2.2.length : Int) % 2 = b.2.1)) := by
    show (rowExt c.2.2 b.2.2 && !decide ((c.2.2.length : Int) % 2 = 1 - b.2.1)) = _
    rw [sideB hb, Bool.not_not]
  unfold arePair areApart
  rw [ub, e1, e2]
  unfold extOk
  show (_ → (decide (b.1 = c.1) && _) = _) ∧ (_ → (decide (b.1 = c.1) && _) = _)
  cases n : decide (b.1 = c.1)
  · simp
  · cases s : decide (b.2.1 = c.2.1)
    · simp only [Bool.true_and, Bool.not_false]
      show (_ → (decide (b.2.2 = c.2.2) || _) = _) ∧ (_ → (decide (b.2.2 = c.2.2) || _) = _)
      cases x : rowExt b.2.2 c.2.2
      · cases y : rowExt c.2.2 b.2.2
        · simp
        · rw [decide_eq_false (fun e => ext_ne y e.symm)]
          simp
      · rw [ext_one x, decide_eq_false (ext_ne x)]
        simp
    · simp
/-! ### boards that are in order -/
def okB (b : Bd) : Prop := boardB b = true ∧ smallBd b
theorem lay_let {z : Str} {m : Int} (h : letB z m = true) : PyData.canLay0 (.str z) = true := by
  unfold letB at h
  rw [Bool.and_eq_true] at h
  have a := List.all_eq_true.mp h.2
  rw [PyData.canLay0]
  show z.cps.all (· < 0x110000) = true
  rw [Array.all_eq_true']
  intro c hc
  have := a c (by simpa using hc)
  rw [Bool.and_eq_true] at this
  have := of_decide_eq_true this.2
  exact decide_eq_true (by omega)
theorem okB.row {b : Bd} (h : okB b) : rowB b.2.2 20 = true := by
  have h1 := h.1
  unfold boardB at h1
  rw [Bool.and_eq_true, Bool.and_eq_true] at h1
  exact h1.2.2
theorem okB.lay {b : Bd} (h : okB b) : ∀ z ∈ b.2.2, PyData.canLay0 (.str z) = true := fun z hz => by
  have r := h.row
  unfold rowB at r
  rw [Bool.and_eq_true] at r
  exact lay_let (List.all_eq_true.mp r.2 z hz)
theorem okB.len {b : Bd} (h : okB b) : b.2.2.length ≤ 20 := by
  have r := h.row
  unfold rowB at r
  rw [Bool.and_eq_true] at r
  have := of_decide_eq_true r.1
  omega
theorem okB.side {b : Bd} (h : okB b) : sideOk b := by
  have h1 := h.1
  unfold boardB at h1
  rw [Bool.and_eq_true, Bool.and_eq_true] at h1
  have h2 : (decide (0 ≤ b.2.1) && decide (b.2.1 ≤ 1)) = true := h1.2.1
  rw [Bool.and_eq_true] at h2
  have a := of_decide_eq_true h2.1
  have c := of_decide_eq_true h2.2
  unfold sideOk
  omega
theorem okB.turn {b : Bd} (h : okB b) : okB (turnB b) := by
  have s := h.side
  have h1 := h.1
  unfold boardB at h1
  rw [Bool.and_eq_true, Bool.and_eq_true] at h1
  refine ⟨?_, h.2⟩
  show (letB b.1 8 && ((decide (0 ≤ 1 - b.2.1) && decide (1 - b.2.1 ≤ 1)) && rowB b.2.2 20)) = true
  unfold sideOk at s
  rw [h1.1, h1.2.2, decide_eq_true (show (0 : Int) ≤ 1 - b.2.1 by omega), decide_eq_true (show (1 : Int) - b.2.1 ≤ 1 by omega)]
  rfl
theorem decS {x y : Str} : decide (V.str x = V.str y) = decide (x = y) := by
  by_cases e : x = y
  · rw [e, decide_eq_true rfl, decide_eq_true rfl]
  · rw [decide_eq_false e, decide_eq_false fun z => e (V.str.inj z)]
theorem decI {x y : Int} : decide (V.int x = V.int y) = decide (x = y) := by
  by_cases e : x = y
  · rw [e, decide_eq_true rfl, decide_eq_true rfl]
  · rw [decide_eq_false e, decide_eq_false fun z => e (V.int.inj z)]
/-- what the program's own look at two boards comes to -/
theorem pair_short {b c : Bd} (n : b.1 = c.1) (s : ¬ b.2.1 = c.2.1) (l : b.2.2.length ≤ c.2.2.length) :
    arePair b c = (decide (b.2.2 = c.2.2) || (decide (c.2.2.dropLast = b.2.2) && !decide ((b.2.2.length : Int) % 2 = c.2.1))) := by
  unfold arePair extOk
  rw [decide_eq_true n, decide_eq_false s, Bool.true_and, Bool.not_false, Bool.true_and]
  by_cases e : b.2.2 = c.2.2
  · rw [decide_eq_true e, Bool.true_or, Bool.true_or]
  · rw [decide_eq_false e, Bool.false_or, Bool.false_or]
    have x2 : rowExt c.2.2 b.2.2 = false := by
      unfold rowExt
      rw [decide_eq_false (show ¬ (b.2.2.length = c.2.2.length + 1) by omega), Bool.and_false]
    have x1 : rowExt b.2.2 c.2.2 = decide (c.2.2.dropLast = b.2.2) := by
      unfold rowExt
      by_cases d : c.2.2.dropLast = b.2.2
      · rw [decide_eq_true d, Bool.true_and]
        refine decide_eq_true ?_
        have ld := congrArg List.length d
        rw [List.length_dropLast] at ld
        by_cases z : c.2.2.length = 0
        · exfalso
          have c0 : c.2.2 = [] := List.eq_nil_of_length_eq_zero z
          rw [c0] at d
          exact e (by rw [c0]; exact d.symm)
        · omega
      · rw [decide_eq_false d, Bool.false_and]
    rw [x1, x2, Bool.false_and, Bool.or_false]
theorem pair_swap (b c : Bd) : arePair b c = arePair c b := by
  unfold arePair
  rw [show decide (b.1 = c.1) = decide (c.1 = b.1) from decide_eq_decide.mpr eq_comm, show decide (b.2.1 = c.2.1) = decide (c.2.1 = b.2.1) from decide_eq_decide.mpr eq_comm, show decide (b.2.2 = c.2.2) = decide (c.2.2 = b.2.2) from decide_eq_decide.mpr eq_comm,
    Bool.or_comm (extOk b c) (extOk c b)]
theorem paired_take {α β : Type} {R : α → β → Prop} : ∀ {xs : List α} {ys : List β}, Paired R xs ys → ∀ n, Paired R (xs.take n) (ys.take n)
  | _, _, .nil, n => by
    rw [List.take_nil, List.take_nil]
    exact .nil
  | _, _, .cons r t, 0 => .nil
  | _, _, .cons r t, n + 1 => .cons r (paired_take t n)
theorem paired_app {α β : Type} {R : α → β → Prop} : ∀ {xs : List α} {ys : List β} {us : List α} {ws : List β}, Paired R xs ys → Paired R us ws → Paired R (xs ++ us) (ys ++ ws)
  | _, _, _, _, .nil, h => h
  | _, _, _, _, .cons r t, h => .cons r (paired_app t h)
theorem putF_len (f : Str) (y : V) : ∀ fs : List (Str × V), (putF f y fs).length ≤ fs.length + 1
  | [] => by simp [putF]
  | (g, z) :: fs => by
    have ih := putF_len f y fs
    unfold putF
    split
    · simp
    · rw [List.length_cons, List.length_cons]
      omega
theorem cutV_take (xs : List V) (k : Nat) : cutV xs none (some (k : Int)) = xs.take k := by
  unfold cutV
  rw [HT.sIx_nat, HT.sIx_none, List.drop_zero, Nat.sub_zero]
  by_cases c : k ≤ xs.length
  · rw [Nat.min_eq_left c]
  · rw [Nat.min_eq_right (by omega), List.take_of_length_le (Nat.le_refl _), List.take_of_length_le (by omega)]
end Nm
namespace Nm
open PySem PySem.Spec PyProof.Rows L2 NmD
/-! ### a thing of any kind: what stands at a value, whatever it is -/
mutual
inductive At (tp : Addr) (H : Hp) : V → PyData → Prop
  | non : At tp H .non .none
  | bl (b : Bool) : At tp H (.bl b) (.bool b)
  | int (i : Int) : At tp H (.int i) (.int i)
  | str (z : Str) (l : z.length ≤ 1000) : At tp H (.str z) (.str z)
  | tup {a : Addr} {xs : List V} {ds : List PyData} : H a = some (.tup xs) → AtAll tp H xs ds → At tp H (.ref a) (.tuple ds)
  | lst {a : Addr} {xs : List V} {ds : List PyData} : a ≠ tp → H a = some (.lst xs) → AtAll tp H xs ds → At tp H (.ref a) (.list ds)
  | dct {a : Addr} {kvs : List (Key × V)} : H a = some (.dK kvs) → At tp H (.ref a) (.dict [])
inductive AtAll (tp : Addr) (H : Hp) : List V → List PyData → Prop
  | nil : AtAll tp H [] []
  | cons {v : V} {vs : List V} {d : PyData} {ds : List PyData} : At tp H v d → AtAll tp H vs ds → AtAll tp H (v :: vs) (d :: ds)
end
mutual
theorem At.same {tp : Addr} {H H' : Hp} (g : Same H H') : ∀ (d : PyData) (v : V), At tp H v d → At tp H' v d
  | .none, _, h => by
    cases h
    exact .non
  | .bool b, _, h => by
    cases h
    exact .bl b
  | .int i, _, h => by
    cases h
    exact .int i
  | .str z, _, h => by
    cases h with
    | str _ l => exact .str z l
  | .tuple ds, _, h => by
    cases h with
    | tup h1 h2 => exact .tup (g _ _ h1) (AtAll.same g ds _ h2)
  | .list ds, _, h => by
    cases h with
    | lst n h1 h2 => exact .lst n (g _ _ h1) (AtAll.same g ds _ h2)
  | .dict ks, _, h => by
    cases h with
    | dct h1 => exact .dct (g _ _ h1)
theorem AtAll.same {tp : Addr} {H H' : Hp} (g : Same H H') : ∀ (ds : List PyData) (vs : List V), AtAll tp H vs ds → AtAll tp H' vs ds
  | [], _, h => by
    cases h
    exact .nil
  | d :: ds, _, h => by
    cases h with
    | cons h1 h2 => exact .cons (At.same g d _ h1) (AtAll.same g ds _ h2)
end
mutual
theorem At.mov {tp : Addr} {H H' : Hp} (g : Mov tp H H') (ok : ∀ xs, H tp ≠ some (.tup xs)) (ok2 : ∀ ks, H tp ≠ some (.dK ks)) : ∀ (d : PyData) (v : V), At tp H v d → At tp H' v d
  | .none, _, h => by
    cases h
    exact .non
  | .bool b, _, h => by
    cases h
    exact .bl b
  | .int i, _, h => by
    cases h
    exact .int i
  | .str z, _, h => by
    cases h with
    | str _ l => exact .str z l
  | .tuple ds, _, h => by
    cases h with
    | tup h1 h2 => exact .tup (g _ _ h1 fun e => ok _ (e ▸ h1)) (AtAll.mov g ok ok2 ds _ h2)
  | .list ds, _, h => by
    cases h with
    | lst n h1 h2 => exact .lst n (g _ _ h1 n) (AtAll.mov g ok ok2 ds _ h2)
  | .dict ks, _, h => by
    cases h with
    | dct h1 => exact .dct (g _ _ h1 fun e => ok2 _ (e ▸ h1))
theorem AtAll.mov {tp : Addr} {H H' : Hp} (g : Mov tp H H') (ok : ∀ xs, H tp ≠ some (.tup xs)) (ok2 : ∀ ks, H tp ≠ some (.dK ks)) : ∀ (ds : List PyData) (vs : List V), AtAll tp H vs ds → AtAll tp H' vs ds
  | [], _, h => by
    cases h
    exact .nil
  | d :: ds, _, h => by
    cases h with
    | cons h1 h2 => exact .cons (At.mov g ok ok2 d _ h1) (AtAll.mov g ok ok2 ds _ h2)
end
/-- a thing apart from the tape stays when the tape is turned on -/
theorem At.tape {tp l : Addr} {H H' : Hp} {d : PyData} {v : V} (h : At tp H v d) (t : TapeAt H tp l) (g : Mov tp H H') : At tp H' v d := by
  obtain ⟨ns, i, c, m, n, hT, _⟩ := t
  exact At.mov g (fun xs e => by rw [hT] at e; cases e) (fun ks e => by rw [hT] at e; cases e) d v h
theorem atAll_paired {tp : Addr} {H : Hp} : ∀ {vs : List V} {ds : List PyData}, AtAll tp H vs ds → Paired (At tp H) vs ds
  | [], _, h => by
    cases h
    exact .nil
  | v :: vs, _, h => by
    cases h with
    | cons h1 h2 => exact .cons h1 (atAll_paired h2)
theorem paired_atAll {tp : Addr} {H : Hp} : ∀ {vs : List V} {ds : List PyData}, Paired (At tp H) vs ds → AtAll tp H vs ds
  | _, _, .nil => .nil
  | _, _, .cons h t => .cons h (paired_atAll t)
theorem At.ty {K : PySem.W.Frag} {tp : Addr} {H : Hp} {v : V} {d : PyData} (h : At tp H v d) : TyX K H v (.type (tyD d)) := by
  cases h with
  | non => exact .base .non
  | bl b => exact .base (.bl b)
  | int i => exact .base (.int i)
  | str z _ => exact .base (.str z)
  | tup h _ => exact .base (.tup h)
  | lst _ h _ => exact .base (.lst h)
  | dct h => exact .base (.dK h)
/-- an int that is no flag -/
def intD : PyData → Bool
  | .int _ => true
  | _ => false
theorem At.tyi {K : PySem.W.Frag} {tp : Addr} {H : Hp} {v : V} {d : PyData} (h : At tp H v d) : TyI K H v := by
  cases h with
  | non => exact ⟨false, false, ⟨_, .base .non, kit_ty (by decide +kernel)⟩, ⟨_, .base .non, kit_ty (by decide +kernel)⟩, rfl⟩
  | bl b => exact ⟨true, true, ⟨_, .base (.bl b), kit_ty (by decide +kernel)⟩, ⟨_, .base (.bl b), kit_ty (by decide +kernel)⟩, rfl⟩
  | int i => exact tyi_int i
  | str z _ => exact tyi_str z
  | tup h _ => exact tyi_tup h
  | lst _ h _ => exact ⟨false, false, ⟨_, .base (.lst h), kit_ty (by decide +kernel)⟩, ⟨_, .base (.lst h), kit_ty (by decide +kernel)⟩, rfl⟩
  | dct h => exact ⟨false, false, ⟨_, .base (.dK h), kit_ty (by decide +kernel)⟩, ⟨_, .base (.dK h), kit_ty (by decide +kernel)⟩, rfl⟩
/-! ### the judgements -/
def letD (d : PyData) (most : Int) : Bool := match d with
  | .str z => letB z most
  | _ => false
def intIn (d : PyData) (lo hi : Int) : Bool := match d with
  | .int n => decide (lo ≤ n) && decide (n ≤ hi)
  | _ => false
def rowsD (d : PyData) (most : Int) : Bool := match d with
  | .tuple ds => decide ((ds.length : Int) ≤ most) && ds.all (fun e => letD e 20)
  | _ => false
def boardD (d : PyData) : Bool := match d with
  | .tuple [n, s, r] => letD n 8 && (intIn s 0 1 && rowsD r 20)
  | _ => false
theorem At.within {tp : Addr} {H : Hp} {v : V} {d : PyData} (h : At tp H v d) (lo hi : Int) : Nm.within v lo hi = intIn d lo hi := by
  cases h <;> rfl
theorem strOr {tp : Addr} {H : Hp} {v : V} {d : PyData} (h : At tp H v d) : (∃ z, v = .str z ∧ d = .str z ∧ z.length ≤ 1000) ∨ ((∀ K : PySem.W.Frag, PySem.W.kitOne K (.type (tyD d)) (.type "str") = some false) ∧ ∀ m, letD d m = false) := by
  cases h with
  | str z l => exact .inl ⟨z, rfl, rfl, l⟩
  | non => exact .inr ⟨fun K => kit_ty (a := "NoneType") (b := "str") (by decide +kernel), fun _ => rfl⟩
  | bl b => exact .inr ⟨fun K => kit_ty (a := "bool") (b := "str") (by decide +kernel), fun _ => rfl⟩
  | int i => exact .inr ⟨fun K => kit_ty (a := "int") (b := "str") (by decide +kernel), fun _ => rfl⟩
  | tup _ _ => exact .inr ⟨fun K => kit_ty (a := "tuple") (b := "str") (by decide +kernel), fun _ => rfl⟩
  | lst _ _ _ => exact .inr ⟨fun K => kit_ty (a := "list") (b := "str") (by decide +kernel), fun _ => rfl⟩
  | dct _ => exact .inr ⟨fun K => kit_ty (a := "dict") (b := "str") (by decide +kernel), fun _ => rfl⟩
theorem tupOr {tp : Addr} {H : Hp} {v : V} {d : PyData} (h : At tp H v d) : (∃ a xs ds, v = .ref a ∧ d = .tuple ds ∧ H a = some (.tup xs) ∧ Paired (At tp H) xs ds) ∨ ((∀ K : PySem.W.Frag, PySem.W.kitOne K (.type (tyD d)) (.type "tuple") = some false) ∧ ∀ ds, d ≠ .tuple ds) := by
  cases h with
  | tup h1 h2 => exact .inl ⟨_, _, _, rfl, rfl, h1, atAll_paired h2⟩
  | str z l => exact .inr ⟨fun K => kit_ty (a := "str") (b := "tuple") (by decide +kernel), fun _ e => nomatch e⟩
  | non => exact .inr ⟨fun K => kit_ty (a := "NoneType") (b := "tuple") (by decide +kernel), fun _ e => nomatch e⟩
  | bl b => exact .inr ⟨fun K => kit_ty (a := "bool") (b := "tuple") (by decide +kernel), fun _ e => nomatch e⟩
  | int i => exact .inr ⟨fun K => kit_ty (a := "int") (b := "tuple") (by decide +kernel), fun _ e => nomatch e⟩
  | lst _ _ _ => exact .inr ⟨fun K => kit_ty (a := "list") (b := "tuple") (by decide +kernel), fun _ e => nomatch e⟩
  | dct _ => exact .inr ⟨fun K => kit_ty (a := "dict") (b := "tuple") (by decide +kernel), fun _ e => nomatch e⟩
theorem rowsD_no {d : PyData} (h : ∀ ds, d ≠ .tuple ds) (m : Int) : rowsD d m = false := by
  cases d with
  | tuple ds => exact absurd rfl (h ds)
  | _ => rfl
theorem boardD_no {d : PyData} (h : ∀ ds, d ≠ .tuple ds) : boardD d = false := by
  cases d with
  | tuple ds => exact absurd rfl (h ds)
  | _ => rfl
theorem boardD_len {ds : List PyData} (h : ds.length ≠ 3) : boardD (.tuple ds) = false := by
  match ds, h with
  | [], _ => rfl
  | [_], _ => rfl
  | [_, _], _ => rfl
  | [_, _, _], h => exact absurd rfl h
  | _ :: _ :: _ :: _ :: _, _ => rfl
/-- how many things stand in it at most -/
def small (d : PyData) : Bool := match d with
  | .tuple ds => decide (ds.length ≤ 1000)
  | _ => true
/-! ### right boards, read off -/
def strOf (d : PyData) : Str := match d with
  | .str z => z
  | _ => Str.empty
def intOf (d : PyData) : Int := match d with
  | .int i => i
  | _ => 0
def rowOf (d : PyData) : List Str := match d with
  | .tuple ds => ds.map strOf
  | _ => []
def bdOf (d : PyData) : Bd := match d with
  | .tuple [n, s, r] => (strOf n, intOf s, rowOf r)
  | _ => (Str.empty, 0, [])
def bdsOf (d : PyData) : List Bd := match d with
  | .tuple ds => ds.map bdOf
  | _ => []
theorem let_at {tp : Addr} {H : Hp} {v : V} {d : PyData} {m : Int} (h : At tp H v d) (l : letD d m = true) : v = .str (strOf d) ∧ letB (strOf d) m = true ∧ (strOf d).length ≤ 1000 := by
  rcases strOr h with ⟨z, rfl, rfl, hz⟩ | ⟨_, no⟩
  · exact ⟨rfl, l, hz⟩
  · rw [no m] at l
    cases l
theorem row_at {tp : Addr} {H : Hp} : ∀ {xs : List V} {ds : List PyData}, Paired (At tp H) xs ds → ds.all (fun e => letD e 20) = true → xs = (ds.map strOf).map V.str ∧ (ds.map strOf).all (fun z => letB z 20) = true ∧ ∀ z ∈ ds.map strOf, z.length ≤ 1000
  | _, _, .nil, _ => ⟨rfl, rfl, fun z hz => absurd hz (List.not_mem_nil)⟩
  | _, _, .cons (a := x) (b := d) h t, l => by
    rw [List.all_cons, Bool.and_eq_true] at l
    obtain ⟨e, l1, l2⟩ := let_at h l.1
    obtain ⟨e2, l3, l4⟩ := row_at t l.2
    refine ⟨by rw [List.map_cons, List.map_cons, ← e2, ← e], by rw [List.map_cons, List.all_cons, l1, l3]; rfl, fun z hz => ?_⟩
    rw [List.map_cons] at hz
    rcases List.mem_cons.mp hz with rfl | hz
    · exact l2
    · exact l4 z hz
theorem board_at {tp : Addr} {H : Hp} {v : V} {d : PyData} (h : At tp H v d) (b : boardD d = true) : BoardAt H v (bdOf d) ∧ okB (bdOf d) := by
  rcases tupOr h with ⟨a, xs, ds, rfl, rfl, ha, pr⟩ | ⟨_, no⟩
  rotate_left
  · rw [boardD_no no] at b
    cases b
  by_cases c : ds.length = 3
  rotate_left
  · rw [boardD_len c] at b
    cases b
  obtain ⟨d1, d2, d3, rfl⟩ : ∃ d1 d2 d3, ds = [d1, d2, d3] := by
    match ds, c with
    | [d1, d2, d3], _ => exact ⟨d1, d2, d3, rfl⟩
  cases pr with
  | @cons x1 _ _ _ h1 t1 =>
  cases t1 with
  | @cons x2 _ _ _ h2 t2 =>
  cases t2 with
  | @cons x3 _ _ _ h3 t3 =>
  cases t3 with
  | nil =>
    have b' : (letD d1 8 && (intIn d2 0 1 && rowsD d3 20)) = true := b
    rw [Bool.and_eq_true, Bool.and_eq_true] at b'
    obtain ⟨b1, b2, b3⟩ := b'
    obtain ⟨e1, n1, n2⟩ := let_at h1 b1
    have e2 : x2 = .int (intOf d2) := by
      cases h2 with
      | int i => rfl
      | _ => exact absurd b2 (by simp [intIn])
    rcases tupOr h3 with ⟨r, zs, ws, rfl, rfl, hr, pz⟩ | ⟨_, no⟩
    rotate_left
    · rw [rowsD_no no] at b3
      cases b3
    have b3' : (decide ((ws.length : Int) ≤ 20) && ws.all (fun e => letD e 20)) = true := b3
    rw [Bool.and_eq_true] at b3'
    have l20 := of_decide_eq_true b3'.1
    obtain ⟨e3, r1, r2⟩ := row_at pz b3'.2
    subst e1 e2 e3
    refine ⟨⟨a, r, rfl, ha, hr⟩, ?_, n2, by show (ws.map strOf).length ≤ 1000; rw [List.length_map]; omega, r2⟩
    show (letB (strOf d1) 8 && (Nm.within (.int (intOf d2)) 0 1 && rowB (ws.map strOf) 20)) = true
    rw [n1, h2.within, b2]
    unfold rowB
    rw [r1, List.length_map, decide_eq_true (show ((ws.length : Nat) : Int) ≤ 20 by omega)]
    rfl
/-- the number of the first that is no board -/
def firstBad : List PyData → Nat → Option Int
  | [], _ => none
  | d :: ds, i => if boardD d = true then firstBad ds (i + 1) else some (i : Int)
def dueD (d : PyData) : Option Int := match d with
  | .tuple ds => if 1 ≤ ds.length ∧ ds.length ≤ 12 then firstBad ds 0 else some (-1)
  | _ => some (-1)
theorem dueD_no {d : PyData} (h : ∀ ds, d ≠ .tuple ds) : dueD d = some (-1) := by
  cases d with
  | tuple ds => exact absurd rfl (h ds)
  | _ => rfl
theorem firstBad_at : ∀ (ds : List PyData) (k i : Nat) (d : PyData), ds[i]? = some d → (∀ j e, j < i → ds[j]? = some e → boardD e = true) → boardD d = false → firstBad ds k = some (((k + i : Nat)) : Int)
  | [], _, _, _, h, _, _ => by simp at h
  | e :: ds, k, 0, d, h, _, b => by
    have e' : e = d := by simpa using h
    subst e'
    show (if boardD e = true then _ else some (k : Int)) = _
    rw [b, if_neg Bool.false_ne_true]
    rfl
  | e :: ds, k, i + 1, d, h, all, b => by
    show (if boardD e = true then firstBad ds (k + 1) else some (k : Int)) = _
    rw [all 0 e (Nat.succ_pos i) rfl, if_pos rfl, firstBad_at ds (k + 1) i d (by simpa using h) (fun j f hj hf => all (j + 1) f (Nat.succ_lt_succ hj) (by simpa using hf)) b]
    congr 1
    omega
theorem firstBad_none : ∀ (ds : List PyData) (k : Nat), (∀ e ∈ ds, boardD e = true) → firstBad ds k = none
  | [], _, _ => rfl
  | e :: ds, k, h => by
    show (if boardD e = true then firstBad ds (k + 1) else some (k : Int)) = _
    rw [h e List.mem_cons_self, if_pos rfl]
    exact firstBad_none ds (k + 1) fun f hf => h f (List.mem_cons_of_mem _ hf)
/-- right boards in a tuple -/
theorem boards_at {tp : Addr} {H : Hp} : ∀ {xs : List V} {ds : List PyData}, Paired (At tp H) xs ds → (∀ e ∈ ds, boardD e = true) → Paired (BoardAt H) xs (ds.map bdOf) ∧ ∀ b ∈ ds.map bdOf, okB b
  | _, _, .nil, _ => ⟨.nil, fun b hb => absurd hb (List.not_mem_nil)⟩
  | _, _, .cons h t, l => by
    obtain ⟨b1, b2⟩ := board_at h (l _ List.mem_cons_self)
    obtain ⟨r1, r2⟩ := boards_at t fun e he => l e (List.mem_cons_of_mem _ he)
    refine ⟨.cons b1 r1, fun b hb => ?_⟩
    rw [List.map_cons] at hb
    rcases List.mem_cons.mp hb with rfl | hb
    · exact b2
    · exact r2 b hb
/-- a hall whose boards stand at a -/
def HallIs (K : PySem.W.Frag) (H : Hp) (p a : Addr) (bs : List Bd) : Prop := ∃ C dx fs n ys, Cls K C ∧ NoAttr K C "boards" ∧ NoAttr K C "names" ∧ H p = some (.ins C dx fs) ∧ fs.lookup ("boards" : Str) = some (.ref a) ∧ fs.lookup ("names" : Str) = some (.ref n) ∧
  BoardsAt H a bs ∧ H n = some (.tup (ys.map V.str)) ∧ Names (bs.map (·.1)) ys
theorem HallIs.at {K : PySem.W.Frag} {H : Hp} {p a : Addr} {bs : List Bd} (h : HallIs K H p a bs) : HallAt K H p bs := by
  obtain ⟨C, dx, fs, n, ys, h1, h2, h3, h4, h5, h6, h7, h8, h9⟩ := h
  exact ⟨C, dx, fs, a, n, ys, h1, h2, h3, h4, h5, h6, h7, h8, h9⟩
end Nm
namespace Nm
open PySem PySem.Spec PyProof.Rows L2
/-- C(e, ..) where the making may raise, what is wished then told at the slots -/
def tMakeS (C : Addr) (sp : Sp) (E : L2.St → XK) (t : TA) : TE := fun σ H Q => t σ H fun vs H1 => ∀ x dx, H1 x = none → H1 dx = none → dx ≠ x → sp (.ref x :: vs) (upd (upd H1 dx (.own x)) x (.ins C dx [])) (fun v H2 => v = .non ∧ Q (.ref x) H2) (E σ)
section
variable {X : Cx} {CX : CXT} {k : Nat} {f C : Addr} {fd : FuncData} {ps : List Str} {sp : Sp} {E : L2.St → XK} {x : Str} {p pos : Pos} {e : Expr} {es : List Expr} {t : TA}
theorem made_out {pins : List (Addr × Obj)} {σ : L2.St} {H : Hp} {s : Shared} {Q : VK} {us : List Value} {vs : List V} (M : Mk X.K C f) (F : FnOk X.prog X.w X.K X.mg X.base CX k f fd ps sp) (hr : Room (k + 1) X.A) (hb : Binds X.K fd ps [])
    (hx : PassesAt CX X σ (E σ)) (I : Inv X pins σ H s) (r : Vals vs us) (h : ∀ y dx, H y = none → H dx = none → dx ≠ y → sp (.ref y :: vs) (upd (upd H dx (.own y)) y (.ins C dx [])) (fun v H2 => v = .non ∧ Q (.ref y) H2) (E σ)) :
    wpAny (model X.prog X.w) X.A (call (.ref C) us) (EP X pins σ Q) X.xe s := by
  have n0 := I.hok.fresh (Nat.le_refl s.heap.objs.size)
  have n1 := I.hok.fresh (Nat.le_succ s.heap.objs.size)
  have ask := h (s.heap.objs.size + 1) s.heap.objs.size n1 n0 (Nat.ne_of_lt (Nat.lt_succ_self _))
  have J := Inv.made (C := C) I
  have rr : Vals (V.ref (s.heap.objs.size + 1) :: vs) (Value.ref (s.heap.objs.size + 1) :: us) := .cons rfl r
  have ll : (Value.ref (s.heap.objs.size + 1) :: us).length = ps.length := (rr.length).symm.trans (F.len _ _ _ _ ask)
  have bb := hb _ (Value.ref (s.heap.objs.size + 1) :: us) J.kIn (by rw [List.append_nil]; exact ll)
  rw [List.append_nil] at bb
  have run := F.run _ X.stack _ _ ⟨Value.ref (s.heap.objs.size + 1) :: us, []⟩ (Value.ref (s.heap.objs.size + 1) :: us) _ _ (E σ) (hr.make C us []) (J.env0.make C us []) bb rr ask
  refine wpAny_call (make_map (f := f) I.kIn M.makes M.init (beq_iff_eq.mp M.fn) (codeAny_mono run fun res s' hq => ?_))
  match res, hq with
  | .error er, hq => exact hx pins _ _ er s' J hq
  | .ok (.ret u), hq =>
    obtain ⟨v, H', J', rv, ev, q3⟩ := J.after hq
    subst ev
    exact ⟨rv, V.ref (s.heap.objs.size + 1), H', J', rfl, q3⟩
theorem pe_makeS (M : Mk X.K C f) (F : FnOk X.prog X.w X.K X.mg X.base CX k f fd ps sp) (hr : Room (k + 1) X.A) (hg : Gl X x) (hm : X.mg x = some (.ref C)) (hb : Binds X.K fd ps []) (hx : ∀ σ, PassesAt CX X σ (E σ))
    (ha : PA X (e :: es) t) (hdb : (x == ("__debug__" : Str)) = false := by decide) (he : starEach (e :: es) X.env = (false, eval e X.env) :: starEach es X.env := by rfl) (hpl : (backTo pos (starEach es X.env)).any (·.1) = false := by rfl) :
    PE X (.Call (.Name x p) (e :: es) [] pos) (tMakeS C sp E t) :=
  ⟨fun pins s σ H Q I h => wpAny_Call_Name_kw (ld_glob I hg hm (PySem.W.callWith_K (h₀ := X.base) I.ok.mod.kin M.kp
    (thn (ha.run pos pins s σ H _ I h) fun us s1 ⟨vs, H1, I1, r, q⟩ => ⟨I1.kIn, made_out M F hr hb (hx σ) I1 r q⟩) he hpl) hdb)⟩
end
/-- the making of an error with one field -/
def sp_one (K : PySem.W.Frag) (C : Addr) (f : Str) : Sp := fun vs H Q _ => ∃ (a : Addr) (v : V), vs = [.ref a, v] ∧ H a = some (exo a C none) ∧ ∀ dx, H dx = none → dx ≠ a → Q .non (upd (upd H dx (exd dx [(f, v)])) a (exo a C (some dx)))
/-- what the top says of an error class with one field -/
structure One (K : PySem.W.Frag) (mg : Str → Option Value) (x q f : Str) (st : Stmt) (C fi : Addr) (fd : FuncData) : Prop where
  hm : mg x = some (.ref C)
  ox : OexC K C
  iC : PySem.W.findIn K (.ref C) "__init__" = some (some (.ref fi))
  tI : PySem.W.typeIn K (.ref fi) = some (.type "function")
  no : PySem.W.findIn K (.ref C) f = some none
  xf : XfC K C
  ex : PySem.W.exmOne K (.ref C) (.ref C) = some true
  fn : Fun K "__init__" q st fi fd
/-- behind the making and the letting go: all that stood stands, the field is there -/
theorem flown {H : Hp} {e dx C : Addr} {f : Str} {v : V} (he : H e = none) (hd : upd H e (exo e C none) dx = none) (ne : dx ≠ e) :
    Same H (upd (del (upd (upd (upd H e (exo e C none)) dx (exd dx [(f, v)])) e (exo e C (some dx))) e) dx (.xd [(f, v)])) := fun b o hb => by
  have be : b ≠ e := ne_of_none hb he
  have hd' : H dx = none := by
    rw [upd_ne ne] at hd
    exact hd
  have bd : b ≠ dx := ne_of_none hb hd'
  rw [upd_ne bd, del_ne be, upd_ne be, upd_ne bd, upd_ne be]
  exact hb
end Nm
namespace Nm
open PySem PySem.Spec PyProof.Rows L2
/-- t * 0 is () -/
theorem tuple_mul0 (l : Addr) (items : Array Value) (n : Nat) (dd : Option Addr) (sl : Array (Option Value)) (u : Tok) (hne : items.isEmpty = false) :
    Meets (Builtin.«tuple.__mul__» ⟨[.ref l, .int 0 u], []⟩) (fun _ R s => s.heap.get? l = some { cls := .type "tuple", dict := dd, data := .seq items n, slots := sl } ∧ ∀ tk, R (.ok (.ret (Value.ref s.heap.objs.size))) { s with heap := s.heap.push { cls := .type "tuple", data := .seq #[] }, toks := tk }) :=
  .of_wp fun prog w A R s h => by
    obtain ⟨hp, g, d, tk, os⟩ := s
    obtain ⟨hl, h⟩ := h
    have f1 := AutoSeq1.idx_int
    have c0 : (decide ((0 : Int) < -(2 ^ 63)) || decide ((0 : Int) ≥ 2 ^ 63)) = false := by decide
    have c1 : (items.isEmpty || (0 : Int) == 1) = false := by rw [hne]; rfl
    have c2 : (decide ((0 : Int) ≤ 0) || items.isEmpty) = true := by rw [hne]; rfl
    wp_walk using wpAny_loadPart' hl
    exact ⟨_, rfl, h _⟩
def rRep0 (K : PySem.W.Frag) : R2 := fun x y H Q => ∃ l xs, x = .ref l ∧ y = .int 0 ∧ SqT K H l xs ∧ xs ≠ [] ∧ ∀ p, H p = none → Q (.ref p) (upd H p (.tup []))
def rMulS : R2 := fun x y H Q => ∃ (z : Str) (k : Int), x = .str z ∧ y = .int k ∧ 2 ≤ k ∧ k ≤ 1000 ∧ 1 ≤ z.length ∧ z.length ≤ 1000 ∧ (⟨(List.replicate k.toNat z.cps).foldl (· ++ ·) #[]⟩ : Str).length ≤ 1000000 ∧ Q (.str ⟨(List.replicate k.toNat z.cps).foldl (· ++ ·) #[]⟩) H
section
variable {X : Cx}
theorem op_rep0 : OpR X (binaryOp .Mult) (rRep0 X.K) := by
  intro pins s σ H x y v u Q I rx ry h
  obtain ⟨l, xs, rfl, rfl, hT, hne, q⟩ := h
  cases rx
  obtain ⟨t, rfl⟩ := ry
  obtain ⟨its, r, ⟨⟨cls, dd, data, sl⟩, ho, hc, n, hd⟩, hs⟩ := I.tuple hT
  simp only at hc hd
  subst hc hd
  have ne : its.toArray.isEmpty = false := by
    cases its with
    | nil =>
      cases r
      exact absurd rfl hne
    | cons a b => rfl
  refine wpAny_binaryOp_repeat_ref (T := "tuple") (U := "int") (by decide) ⟨_, ho, rfl⟩ (fun s' => typeIs_int s' 0 t) noFill_tuple_mul F.fills_int_mul F.slot_int_rmul repeat_tuple F.slot_int_index.lookup
    (call_meets F.slot_int_rmul (typeIs_int s 0 t) F.entry_int_rmul (F.args_int_rmul_2 _ _) (int_rmul_tuple 0 t l its.toArray n dd sl)
      ⟨ho, rfl, ⟨_, ho, rfl⟩, call_meets F.slot_tuple_mul ⟨_, ho, rfl⟩ F.entry_tuple_mul (F.args_tuple_mul_2 _ _) (tuple_mul0 l its.toArray n dd sl t ne) ⟨ho, fun tk => ?_⟩⟩)
  refine ⟨.ref s.heap.objs.size, upd H s.heap.objs.size (.tup []), ?_, rfl, q _ (I.hok.fresh (Nat.le_refl _))⟩
  exact I.laid (t' := tk) (o := .tup []) (fun b ob q => Heap.get?_push_of_some _ q) (Nat.le_refl _) ⟨Nat.zero_le _, [], .nil, IsTup.new _ _⟩
theorem op_mulS : OpR X (binaryOp .Mult) rMulS := by
  intro pins s σ H x y v u Q I rx ry h
  obtain ⟨z, k, rfl, rfl, k1, k2, z1, z2, lz, q⟩ := h
  obtain ⟨t, rfl⟩ := rx
  obtain ⟨t2, rfl⟩ := ry
  have ne : ¬ k < 1 := by omega
  have c : (k == 1 || z.length == 0) = false := by
    rw [Bool.or_eq_false_iff]
    exact ⟨beq_eq_false_iff_ne.mpr (by omega), beq_eq_false_iff_ne.mpr (by omega)⟩
  refine P.mul_str ?_ (fun _ _ => ?_) (fun _ _ => ?_) ?_
  · rw [decide_eq_false (show ¬ (k < -(2 ^ 63 : Int)) by omega), decide_eq_false (show ¬ (k ≥ 2 ^ 63) by omega)]
    rfl
  · have h1 : (2 ^ 63 - 1 : Int) / k ≥ 1000 := (Int.le_ediv_iff_mul_le (by omega)).mpr (by omega)
    omega
  · have h1 : z.length * k.toNat ≤ 1000 * 1000 := Nat.mul_le_mul z2 (by omega)
    unfold Builtin.Str.tooLong
    first
      | exact decide_eq_false (by rw [sizeLine_eq]; omega)
      | (simp only [decide_eq_false_iff_not]; rw [sizeLine_eq]; omega)
      | (simp [sizeLine_eq]; omega)
  · rw [if_neg ne, c, if_neg Bool.false_ne_true]
    exact ⟨by rw [sizeLine_eq]; omega, .str _, H, I.tok _, ⟨_, rfl⟩, q⟩
end
end Nm
namespace Nm
open PySem PySem.Spec PyProof.Rows L2
abbrev sK := PyProof.Rows.strKind
/-- a text before another one -/
abbrev before (a b : Str) : Prop := sK.blt a.cps.toList b.cps.toList = true
theorem lt_blt (a b : Str) : ltCps a.cps.toList b.cps.toList = sK.blt a.cps.toList b.cps.toList := PyProof.Rows.ltCps_eq _ _
theorem before_not {a b : Str} (h : before a b) : ¬ before b a := fun h2 => by
  have z := sK.trans _ _ _ h h2
  rw [sK.irrefl] at z
  cases z
theorem before_tr {a b c : Str} (h : before a b) (h2 : before b c) : before a c := sK.trans a.cps.toList b.cps.toList c.cps.toList h h2
theorem before_tot {a b : Str} (h : ¬ before b a) (n : a ≠ b) : before a b := by
  cases e : sK.blt a.cps.toList b.cps.toList with
  | true => exact e
  | false =>
    have z := sK.total a.cps.toList b.cps.toList e (by
      cases e2 : sK.blt b.cps.toList a.cps.toList with
      | true => exact absurd e2 h
      | false => rfl)
    refine absurd ?_ n
    obtain ⟨⟨x⟩⟩ := a
    obtain ⟨⟨y⟩⟩ := b
    have z' : x = y := z
    rw [z']
/-- two ascending lists of the same texts are one -/
theorem rise_one : ∀ {xs ys : List Str}, xs.Pairwise before → ys.Pairwise before → (∀ z, z ∈ xs ↔ z ∈ ys) → xs = ys
  | [], [], _, _, _ => rfl
  | [], y :: ys, _, _, h => absurd ((h y).mpr List.mem_cons_self) (List.not_mem_nil)
  | x :: xs, [], _, _, h => absurd ((h x).mp List.mem_cons_self) (List.not_mem_nil)
  | x :: xs, y :: ys, p, q, h => by
    obtain ⟨p1, p2⟩ := List.pairwise_cons.mp p
    obtain ⟨q1, q2⟩ := List.pairwise_cons.mp q
    have e : x = y := by
      rcases List.mem_cons.mp ((h x).mp List.mem_cons_self) with e | m
      · exact e
      · rcases List.mem_cons.mp ((h y).mpr List.mem_cons_self) with e | m2
        · exact e.symm
        · exact absurd (p1 y m2) (before_not (q1 x m))
    subst e
    rw [rise_one p2 q2 fun z => ?_]
    have hz := h z
    constructor
    · intro m
      rcases List.mem_cons.mp (hz.mp (List.mem_cons_of_mem _ m)) with rfl | m2
      · exact absurd (p1 z m) (fun w => before_not w w)
      · exact m2
    · intro m
      rcases List.mem_cons.mp (hz.mpr (List.mem_cons_of_mem _ m)) with rfl | m2
      · exact absurd (q1 z m) (fun w => before_not w w)
      · exact m2
theorem rising_pw : ∀ (r : List Str) (p : Str), risingS p r = true → (p :: r).Pairwise fun a b => ¬ before b a
  | [], p, _ => List.pairwise_singleton _ _
  | x :: r, p, h => by
    have h' : (!ltCps x.cps.toList p.cps.toList && risingS x r) = true := h
    rw [Bool.and_eq_true, lt_blt] at h'
    have ih := rising_pw r x h'.2
    have px : ¬ before x p := fun z => by
      have w := h'.1
      rw [show sK.blt x.cps.toList p.cps.toList = true from z] at w
      cases w
    refine List.pairwise_cons.mpr ⟨fun b hb => ?_, ih⟩
    rcases List.mem_cons.mp hb with rfl | hb
    · exact px
    · intro z
      have xb := (List.pairwise_cons.mp ih).1 b hb
      rcases sK.negTrans b.cps.toList x.cps.toList p.cps.toList z with w | w
      · exact xb w
      · exact px w
theorem sorted_pw {xs : List Str} (h : sortedS xs = true) : xs.Pairwise fun a b => ¬ before b a := by
  cases xs with
  | nil => exact List.Pairwise.nil
  | cons x r => exact rising_pw r x h
theorem Names.rise {xs ys : List Str} (h : Names xs ys) : ys.Pairwise before :=
  (List.Pairwise.and (sorted_pw h.up) h.nd).imp fun ⟨a, b⟩ => before_tot a b
/-- each once, as the neighbours tell -/
def onceUp (zs : List Str) : Nat → List Str
  | 0 => []
  | i + 1 => onceUp zs i ++ (if i = 0 ∨ zs.getD i Str.empty ≠ zs.getD (i - 1) Str.empty then [zs.getD i Str.empty] else [])
theorem once_mem {zs : List Str} (h : zs.Pairwise fun a b => ¬ before b a) : ∀ i, i ≤ zs.length → (onceUp zs i).Pairwise before ∧ (∀ z, z ∈ onceUp zs i ↔ z ∈ zs.take i)
  | 0, _ => ⟨List.Pairwise.nil, fun z => by simp [onceUp]⟩
  | i + 1, hi => by
    obtain ⟨p, m⟩ := once_mem h i (by omega)
    have hx : zs[i]? = some (zs.getD i Str.empty) := by
      rw [List.getD_eq_getElem?_getD, List.getElem?_eq_getElem (by omega)]
      rfl
    have tk := take_one hx
    unfold onceUp
    by_cases c : i = 0 ∨ zs.getD i Str.empty ≠ zs.getD (i - 1) Str.empty
    · rw [if_pos c, tk]
      refine ⟨?_, fun z => by rw [List.mem_append, List.mem_append, m z]⟩
      rw [List.pairwise_append]
      refine ⟨p, List.pairwise_singleton _ _, fun u hu v hv => ?_⟩
      rw [List.mem_singleton.mp hv]
      have hu' := (m u).mp hu
      obtain ⟨j, hj⟩ := List.mem_iff_getElem?.mp hu'
      rw [List.getElem?_take] at hj
      by_cases ji : j < i
      rotate_left
      · rw [if_neg ji] at hj
        cases hj
      rw [if_pos ji] at hj
      have pw := List.pairwise_iff_getElem.mp h
      have ej : zs[j]'(by omega) = u := by
        rw [List.getElem?_eq_getElem (by omega)] at hj
        exact Option.some.inj hj
      have ei : zs[i]'(by omega) = zs.getD i Str.empty := by
        rw [List.getElem?_eq_getElem (by omega)] at hx
        exact Option.some.inj hx
      have vu : ¬ before (zs.getD i Str.empty) u := by
        have z := pw j i (by omega) (by omega) ji
        rw [ej, ei] at z
        exact z
      refine before_tot vu fun e => ?_
      have cc : zs.getD i Str.empty ≠ zs.getD (i - 1) Str.empty := c.elim (fun z => by omega) id
      have el : zs[i - 1]'(by omega) = zs.getD (i - 1) Str.empty := by
        rw [List.getD_eq_getElem?_getD, List.getElem?_eq_getElem (by omega)]
        rfl
      by_cases jl : j = i - 1
      · subst jl
        exact cc (by rw [← e, ← ej, el])
      · have z1 := pw j (i - 1) (by omega) (by omega) (by omega)
        have z2 := pw (i - 1) i (by omega) (by omega) (by omega)
        rw [ej, el] at z1
        rw [el, ei] at z2
        have z3 := before_tot z2 (fun q => cc q.symm)
        rw [← e] at z3
        exact z1 z3
    · rw [if_neg c, List.append_nil, tk]
      refine ⟨p, fun z => ?_⟩
      rw [m z, List.mem_append]
      refine ⟨.inl, fun w => w.elim id fun w => ?_⟩
      rw [List.mem_singleton.mp w]
      have e : zs.getD i Str.empty = zs.getD (i - 1) Str.empty := Classical.not_not.mp fun q => c (.inr q)
      have i0 : i ≠ 0 := fun q => c (.inl q)
      rw [e, List.mem_iff_getElem?]
      refine ⟨i - 1, ?_⟩
      rw [List.getElem?_take, if_pos (by omega), List.getD_eq_getElem?_getD, List.getElem?_eq_getElem (by omega)]
      rfl
/-- the names once each are the hall's names -/
theorem once_names {zs ns ys : List Str} (h : sortedS zs = true) (pm : zs.Perm ns) (nm : Names ns ys) : onceUp zs zs.length = ys := by
  obtain ⟨p, m⟩ := once_mem (sorted_pw h) zs.length (Nat.le_refl _)
  refine rise_one p nm.rise fun z => ?_
  rw [m z, List.take_length, pm.mem_iff, nm.mem]
end Nm
namespace K11
open PySem L2
def top (i : Nat) : Stmt := PySem.Challenge.pw_untoldgames_k11_halls_judged.main.body.getD i (.Pass ⟨0, 0, 0, 0⟩)
abbrev s_is_integer : Stmt := top 4
abbrev s_is_within : Stmt := top 5
abbrev s_is_side : Stmt := top 6
abbrev s_is_lettered : Stmt := top 7
abbrev s_is_name : Stmt := top 9
abbrev s_is_word : Stmt := top 8
abbrev s_is_words : Stmt := top 10
abbrev s_is_board : Stmt := top 14
abbrev s_names_of : Stmt := top 15
abbrev s__law_tape : Stmt := top 18
abbrev s__law_pick : Stmt := top 19
abbrev s__law_some : Stmt := top 21
abbrev s__law_word : Stmt := top 22
abbrev s__law_line : Stmt := top 26
abbrev s__law_boards : Stmt := top 27
abbrev s_BadHall___init__ : Stmt := inClass (top 2) 0
abbrev s_Hall___init__ : Stmt := inClass (top 16) 0
abbrev s__law_int : Stmt := top 25
abbrev s__law_is_word : Stmt := top 23
abbrev s__law_is_row : Stmt := top 24
abbrev s__law_due : Stmt := top 28
abbrev s__law_bent : Stmt := top 29
abbrev s__law_is : Stmt := top 20
abbrev s_law : Stmt := top 30
theorem sc_is_integer : FnScope ["thing"] ["thing"] (defScope s_is_integer) := ⟨rfl, rfl, rfl, by decide +kernel, rfl, by decide +kernel, by decide +kernel⟩
theorem sc_is_within : FnScope ["thing", "low", "high"] ["thing", "low", "high"] (defScope s_is_within) := ⟨rfl, rfl, rfl, by decide +kernel, rfl, by decide +kernel, by decide +kernel⟩
theorem sc_is_side : FnScope ["thing"] ["thing"] (defScope s_is_side) := ⟨rfl, rfl, rfl, by decide +kernel, rfl, by decide +kernel, by decide +kernel⟩
theorem sc_is_lettered : FnScope ["thing", "most", "sign"] ["thing", "most"] (defScope s_is_lettered) := ⟨rfl, rfl, rfl, by decide +kernel, rfl, by decide +kernel, by decide +kernel⟩
theorem sc_is_name : FnScope ["thing"] ["thing"] (defScope s_is_name) := ⟨rfl, rfl, rfl, by decide +kernel, rfl, by decide +kernel, by decide +kernel⟩
theorem sc_is_word : FnScope ["thing"] ["thing"] (defScope s_is_word) := ⟨rfl, rfl, rfl, by decide +kernel, rfl, by decide +kernel, by decide +kernel⟩
theorem sc_is_words : FnScope ["thing", "most", "word"] ["thing", "most"] (defScope s_is_words) := ⟨rfl, rfl, rfl, by decide +kernel, rfl, by decide +kernel, by decide +kernel⟩
theorem sc_is_board : FnScope ["thing", "name", "side", "begun"] ["thing"] (defScope s_is_board) := ⟨rfl, rfl, rfl, by decide +kernel, rfl, by decide +kernel, by decide +kernel⟩
theorem sc_names_of : FnScope ["boards", "board"] ["boards"] (defScope s_names_of) := ⟨rfl, rfl, rfl, by decide +kernel, rfl, by decide +kernel, by decide +kernel⟩
theorem sc__law_tape : FnScope ["script"] ["script"] (defScope s__law_tape) := ⟨rfl, rfl, rfl, by decide +kernel, rfl, by decide +kernel, by decide +kernel⟩
theorem sc__law_pick : FnScope ["tape", "size", "digit", "cell", "mixed"] ["tape", "size"] (defScope s__law_pick) := ⟨rfl, rfl, rfl, by decide +kernel, rfl, by decide +kernel, by decide +kernel⟩
theorem sc__law_some : FnScope ["tape", "things"] ["tape", "things"] (defScope s__law_some) := ⟨rfl, rfl, rfl, by decide +kernel, rfl, by decide +kernel, by decide +kernel⟩
theorem sc__law_word : FnScope ["tape", "few"] ["tape"] (defScope s__law_word) := ⟨rfl, rfl, rfl, by decide +kernel, rfl, by decide +kernel, by decide +kernel⟩
theorem sc__law_line : FnScope ["tape", "many", "k"] ["tape", "many"] (defScope s__law_line) := ⟨rfl, rfl, rfl, by decide +kernel, rfl, by decide +kernel, by decide +kernel⟩
theorem sc__law_boards : FnScope ["tape", "most", "begun", "many", "names", "line", "other", "found", "k", "row"] ["tape", "most", "begun"] (defScope s__law_boards) := ⟨rfl, rfl, rfl, by decide +kernel, rfl, by decide +kernel, by decide +kernel⟩
theorem sc_BadHall___init__ : FnScope ["self", "at"] ["self", "at"] (defScope s_BadHall___init__) := ⟨rfl, rfl, rfl, by decide +kernel, rfl, by decide +kernel, by decide +kernel⟩
theorem sc_Hall___init__ : FnScope ["self", "boards", "at", "board"] ["self", "boards"] (defScope s_Hall___init__) := ⟨rfl, rfl, rfl, by decide +kernel, rfl, by decide +kernel, by decide +kernel⟩
theorem sc__law_int : FnScope ["thing", "least", "most"] ["thing", "least", "most"] (defScope s__law_int) := ⟨rfl, rfl, rfl, by decide +kernel, rfl, by decide +kernel, by decide +kernel⟩
theorem sc__law_is_word : FnScope ["thing", "most", "sign"] ["thing", "most"] (defScope s__law_is_word) := ⟨rfl, rfl, rfl, by decide +kernel, rfl, by decide +kernel, by decide +kernel⟩
theorem sc__law_is_row : FnScope ["thing", "most", "word"] ["thing", "most"] (defScope s__law_is_row) := ⟨rfl, rfl, rfl, by decide +kernel, rfl, by decide +kernel, by decide +kernel⟩
theorem sc__law_due : FnScope ["thing", "at", "board"] ["thing"] (defScope s__law_due) := ⟨rfl, rfl, rfl, by decide +kernel, rfl, by decide +kernel, by decide +kernel⟩
theorem sc__law_bent : FnScope ["tape", "boards", "at", "name", "side", "begun", "kind", "odd", "rows"] ["tape", "boards"] (defScope s__law_bent) := ⟨rfl, rfl, rfl, by decide +kernel, rfl, by decide +kernel, by decide +kernel⟩
theorem sc__law_is : FnScope ["told", "due", "one", "two"] ["told", "due"] (defScope s__law_is) := ⟨rfl, rfl, rfl, by decide +kernel, rfl, by decide +kernel, by decide +kernel⟩
theorem sc_law : FnScope ["script", "tape", "turn", "thing", "change", "due", "told", "hall", "e", "names", "board", "k"] ["script"] (defScope s_law) := ⟨rfl, rfl, rfl, by decide +kernel, rfl, by decide +kernel, by decide +kernel⟩
structure Txt (K : PySem.W.Frag) (mg : Str → Option Value) : Prop where
  d_is_integer : Nm.Top K mg "is_integer" s_is_integer
  d_is_within : Nm.Top K mg "is_within" s_is_within
  d_is_side : Nm.Top K mg "is_side" s_is_side
  d_is_lettered : Nm.Top K mg "is_lettered" s_is_lettered
  d_is_name : Nm.Top K mg "is_name" s_is_name
  d_is_word : Nm.Top K mg "is_word" s_is_word
  d_is_words : Nm.Top K mg "is_words" s_is_words
  d_is_board : Nm.Top K mg "is_board" s_is_board
  d_names_of : Nm.Top K mg "names_of" s_names_of
  d__law_tape : Nm.Top K mg "_law_tape" s__law_tape
  d__law_pick : Nm.Top K mg "_law_pick" s__law_pick
  d__law_some : Nm.Top K mg "_law_some" s__law_some
  d__law_word : Nm.Top K mg "_law_word" s__law_word
  d__law_line : Nm.Top K mg "_law_line" s__law_line
  d__law_boards : Nm.Top K mg "_law_boards" s__law_boards
  d__law_int : Nm.Top K mg "_law_int" s__law_int
  d__law_is_word : Nm.Top K mg "_law_is_word" s__law_is_word
  d__law_is_row : Nm.Top K mg "_law_is_row" s__law_is_row
  d__law_due : Nm.Top K mg "_law_due" s__law_due
  d__law_bent : Nm.Top K mg "_law_bent" s__law_bent
  d__law_is : Nm.Top K mg "_law_is" s__law_is
  d_law : Nm.Top K mg "law" s_law
  m_all : mg "all" = none
  m_bool : mg "bool" = none
  m_enumerate : mg "enumerate" = none
  m_int : mg "int" = none
  m_isinstance : mg "isinstance" = none
  m_len : mg "len" = none
  m_list : mg "list" = none
  m_max : mg "max" = none
  m_range : mg "range" = none
  m_sorted : mg "sorted" = none
  m_str : mg "str" = none
  m_tuple : mg "tuple" = none
  m_zip : mg "zip" = none
  g_MOST_BEGUN : ∃ u, mg "MOST_BEGUN" = some u ∧ RelV (.int 20) u
  g_MOST_BOARDS : ∃ u, mg "MOST_BOARDS" = some u ∧ RelV (.int 12) u
  cls_BadHall : ∃ C f fd, Nm.One K mg "BadHall" "BadHall.__init__" "at" s_BadHall___init__ C f fd
  cls_Hall : ∃ C f fd, Cls K C ∧ Mk K C f ∧ mg "Hall" = some (.ref C) ∧ Fun K "__init__" "Hall.__init__" s_Hall___init__ f fd ∧ NoAttr K C "boards" ∧ NoAttr K C "names"
end K11
namespace K11
open PySem L2 Nm
open C8 (Cal Mak pe_c pe_mk pe_gc)
open RZ (ItzT pi_zipA)
section
variable {P : Program} {w : World} {K : PySem.W.Frag} {mg : Str → Option Value} {base : Heap}
def sp_is_integer (K : PySem.W.Frag) : Sp := fun vs H Q _ => ∃ (x : V), vs = [x] ∧ TyI K H x ∧ Q (.bl (isInt x)) H
theorem c_is_integer (T : Txt K mg) : Cal P w K mg base 1 "is_integer" (sp_is_integer K) [] := by
  have sc := sc_is_integer
  refine cal_of T.d_is_integer sc (fun _ _ _ _ _ _ us hl => match us, hl with | [_], _ => rfl) (fun vs H Q E h => ?_) (fun f cdv A outer s H vs Q E hr h => ?_)
  · obtain ⟨x, rfl, _⟩ := h
    rfl
  · obtain ⟨x, rfl, h⟩ := h
    refine ⟨_, (pss_one (ps_ret (pe_and (pe_callB call_isi rfl T.m_isinstance (by decide +kernel) (pa_cons (pv 0) (pa_cons (pe_bltn (v := .ty "int") (u := .type "int") rfl T.m_int (by decide +kernel) rfl) pa_nil))) (pe_one (pe_not (pe_callB call_isi rfl T.m_isinstance (by decide +kernel) (pa_cons (pv 0) (pa_cons (pe_bltn (v := .ty "bool") (u := .type "bool") rfl T.m_bool (by decide +kernel) rfl) pa_nil)))))))), ?_⟩
    obtain ⟨⟨b, c, ⟨t, h1, h2⟩, ⟨u, h3, h4⟩, e⟩, q⟩ := h
    refine ⟨_, rfl, _, _, t, _, b, rfl, .ty _, h1, h2, b, rfl, ?_⟩
    cases b with
    | false =>
      refine iteF ?_
      rw [← e] at q
      exact q
    | true =>
      refine iteT ⟨_, rfl, _, _, u, _, c, rfl, .ty _, h3, h4, c, rfl, ?_⟩
      rw [← e] at q
      exact q
end
end K11
namespace K11
open PySem L2 Nm
open C8 (Cal Mak pe_c pe_mk pe_gc)
open RZ (ItzT pi_zipA)
section
variable {P : Program} {w : World} {K : PySem.W.Frag} {mg : Str → Option Value} {base : Heap}
def sp_is_within (K : PySem.W.Frag) : Sp := fun vs H Q _ => ∃ (x : V) (lo hi : Int), vs = [x, .int lo, .int hi] ∧ TyI K H x ∧ Q (.bl (within x lo hi)) H
theorem c_is_within (T : Txt K mg) : Cal P w K mg base 2 "is_within" (sp_is_within K) [] := by
  have C_is_integer := c_is_integer (P := P) (w := w) (base := base) T
  have sc := sc_is_within
  refine cal_of T.d_is_within sc (fun _ _ _ _ _ _ us hl => match us, hl with | [_, _, _], _ => rfl) (fun vs H Q E h => ?_) (fun f cdv A outer s H vs Q E hr h => ?_)
  · obtain ⟨x, lo, hi, rfl, _⟩ := h
    rfl
  · obtain ⟨x, lo, hi, rfl, h⟩ := h
    refine ⟨_, (pss_one (ps_ret (pe_and (pe_c C_is_integer hr (by omega) rfl (pa_cons (pv 0) pa_nil)) (pe_one (pe_chain op_le op_le (pv 1) (pv 0) (pv 2)))))), ?_⟩
    obtain ⟨ty, q⟩ := h
    refine ⟨_, rfl, x, rfl, ty, isInt x, rfl, ?_⟩
    cases x with
    | int n =>
      refine iteT ⟨_, rfl, _, rfl, lo, n, rfl, rfl, decide (lo ≤ n), rfl, ?_⟩
      by_cases c : lo ≤ n
      · rw [if_pos (decide_eq_true c)]
        refine ⟨_, rfl, n, hi, rfl, rfl, ?_⟩
        have e : within (.int n) lo hi = decide (n ≤ hi) := by
          show (decide (lo ≤ n) && decide (n ≤ hi)) = _
          rw [decide_eq_true c, Bool.true_and]
        rw [e] at q
        exact q
      · rw [if_neg (by rw [decide_eq_false c]; exact Bool.false_ne_true)]
        have e : within (.int n) lo hi = false := by
          show (decide (lo ≤ n) && decide (n ≤ hi)) = _
          rw [decide_eq_false c, Bool.false_and]
        rw [e] at q
        exact q
    | _ => exact iteF q
end
end K11
namespace K11
open PySem L2 Nm
open C8 (Cal Mak pe_c pe_mk pe_gc)
open RZ (ItzT pi_zipA)
section
variable {P : Program} {w : World} {K : PySem.W.Frag} {mg : Str → Option Value} {base : Heap}
def sp_is_side (K : PySem.W.Frag) : Sp := fun vs H Q _ => ∃ (x : V), vs = [x] ∧ ∃ tp d, At tp H x d ∧ Q (.bl (intIn d 0 1)) H
theorem c_is_side (T : Txt K mg) : Cal P w K mg base 3 "is_side" (sp_is_side K) [] := by
  have C_is_within := c_is_within (P := P) (w := w) (base := base) T
  have sc := sc_is_side
  refine cal_of T.d_is_side sc (fun _ _ _ _ _ _ us hl => match us, hl with | [_], _ => rfl) (fun vs H Q E h => ?_) (fun f cdv A outer s H vs Q E hr h => ?_)
  · obtain ⟨x, rfl, _⟩ := h
    rfl
  · obtain ⟨x, rfl, h⟩ := h
    refine ⟨_, (pss_one (ps_ret (pe_c C_is_within hr (by omega) rfl (pa_cons (pv 0) (pa_cons pe_int (pa_cons pe_int pa_nil)))))), ?_⟩
    obtain ⟨tp0, d, hA, q⟩ := h
    refine ⟨_, rfl, x, 0, 1, rfl, hA.tyi, ?_⟩
    rw [hA.within]
    exact q
end
end K11
namespace K11
open PySem L2 Nm
open C8 (Cal Mak pe_c pe_mk pe_gc)
open RZ (ItzT pi_zipA)
section
variable {P : Program} {w : World} {K : PySem.W.Frag} {mg : Str → Option Value} {base : Heap}
def sp_is_lettered (K : PySem.W.Frag) : Sp := fun vs H Q _ => ∃ (x : V) (most : Int), vs = [x, .int most] ∧ ∃ tp d, At tp H x d ∧ ∀ H', Same H H' → Q (.bl (letD d most)) H'
theorem c_is_lettered (T : Txt K mg) : Cal P w K mg base 1 "is_lettered" (sp_is_lettered K) [] := by
  have sc := sc_is_lettered
  refine cal_of T.d_is_lettered sc (fun _ _ _ _ _ _ us hl => match us, hl with | [_, _], _ => rfl) (fun vs H Q E h => ?_) (fun f cdv A outer s H vs Q E hr h => ?_)
  · obtain ⟨x, most, rfl, _⟩ := h
    rfl
  · obtain ⟨x, most, rfl, h⟩ := h
    refine ⟨_, (pss_cons (ps_if (PW.pt (pw_or (pt_not (pt_val (pe_callB call_isi rfl T.m_isinstance (by decide +kernel) (pa_cons (pv 0) (pa_cons (pe_bltn (v := .ty "str") (u := .type "str") rfl T.m_str (by decide +kernel) rfl) pa_nil))))) (pw_or1 (pt_not (pt_chain op_le op_le pe_int (pe_callB call_len_str rfl T.m_len (by decide +kernel) (pa_cons (pv 0) pa_nil)) (pv 1)))))) (pss_one (ps_ret pe_bl)) pss_nil)
  (pss_one (ps_ret (pe_callB (cr_all rfl) rfl T.m_all (by decide +kernel) (pa_cons (pe_lc (own := [("sign", 2)]) (g := gName 2) rfl sc.nd (pi_str (pv 0)) (blkOk_by (own := [("sign", 2)]) (N := ["thing", "most", "sign"]) (sc := defScope s_is_lettered) (by decide +kernel)) (fun _ _ _ _ _ => (pg_name (i := 2) sc.nd rfl (Or.inl rfl))) (fun _ _ _ _ _ => pts_nil) (fun _ _ _ _ _ => (pe_chain op_le_str op_le_str pe_str (pv 2) pe_str))) pa_nil))))), ?_⟩
    obtain ⟨tp0, d, hA, q⟩ := h
    rcases strOr hA with ⟨z, rfl, rfl, hz⟩ | ⟨ns, no⟩
    · have q : ∀ H', Same H H' → Q (.bl (letB z most)) H' := q
      obtain ⟨t, h1, h2⟩ := tyc_str (K := K) (H := H) z
      have fit : z.length ≤ sizeLine := Nat.le_trans hz (by decide)
      refine ⟨_, rfl, _, _, t, _, true, rfl, .ty _, h1, h2, true, rfl, ?_⟩
      refine iteF ?_
      refine ⟨_, rfl, z, rfl, fit, 1, (z.length : Int), rfl, rfl, decide (1 ≤ (z.length : Int)), rfl, ?_⟩
      by_cases c1 : 1 ≤ (z.length : Int)
      · rw [if_pos (decide_eq_true c1)]
        refine ⟨_, rfl, (z.length : Int), most, rfl, rfl, decide ((z.length : Int) ≤ most), rfl, ?_⟩
        by_cases c2 : (z.length : Int) ≤ most
        · rw [decide_eq_true c2]
          refine iteF ?_
          refine ⟨_, rfl, z, rfl, fun D hD => ?_⟩
          refine lc_it walk_str (fun i H1 => H1 D = some (.lst ((z.cps.toList.take i).map fun c => V.bl (decide (97 ≤ c) && decide (c ≤ 122)))) ∧ Same H H1) ⟨upd_same, same_new hD⟩ (fun _ _ _ _ => trivial) ?_ ?_
          · rintro i x H0 H1 hi ⟨hl, g⟩ ⟨rfl, c, hc, rfl⟩
            refine ⟨rfl, ?_⟩
            have hc' : z.cps.toList[i]? = some c := by rw [Array.getElem?_toList]; exact hc
            have tk : (z.cps.toList.take (i + 1)).map (fun c => V.bl (decide (97 ≤ c) && decide (c ≤ 122))) = (z.cps.toList.take i).map (fun c => V.bl (decide (97 ≤ c) && decide (c ≤ 122))) ++ [V.bl (decide (97 ≤ c) && decide (c ≤ 122))] := by
              rw [List.take_add_one, hc', List.map_append]
              rfl
            have small : ((z.cps.toList.take i).map fun c => V.bl (decide (97 ≤ c) && decide (c ≤ 122))).length < sizeLine := by
              rw [List.length_map, List.length_take]
              have a : z.cps.toList.length = z.length := by rw [Array.length_toList]; rfl
              have b : (1000 : Nat) < sizeLine := by decide
              omega
            have fin : ∀ v : Bool, v = (decide (97 ≤ c) && decide (c ≤ 122)) → ∃ acc, H1 D = some (.lst acc) ∧ acc.length < sizeLine ∧
                (upd H1 D (.lst (acc ++ [V.bl v])) D = some (.lst ((z.cps.toList.take (i + 1)).map fun c => V.bl (decide (97 ≤ c) && decide (c ≤ 122)))) ∧ Same H (upd H1 D (.lst (acc ++ [V.bl v])))) := fun v e => by
              refine ⟨_, hl, small, ?_, same_mut g hD⟩
              rw [upd_same, tk, e]
            refine ⟨_, rfl, _, _, rfl, rfl, !decide (([c] : List Nat) < [97]), rfl, ?_⟩
            rw [sign_lt]
            by_cases d : 97 ≤ c
            · rw [if_pos (by rw [decide_eq_false (by omega)]; rfl)]
              refine ⟨_, _, rfl, rfl, ?_⟩
              refine fin (!decide (([122] : List Nat) < [c])) ?_
              rw [sign_lt, decide_eq_true d, Bool.true_and]
              by_cases d2 : c ≤ 122
              · rw [decide_eq_true d2, decide_eq_false (by omega)]
                rfl
              · rw [decide_eq_false d2, decide_eq_true (by omega)]
                rfl
            · rw [if_neg (by rw [decide_eq_true (by omega)]; exact Bool.false_ne_true)]
              refine fin false ?_
              rw [decide_eq_false d]
              rfl
          · rintro H1 ⟨hl, g⟩
            have hn : z.cps.toList.take z.cps.size = z.cps.toList := List.take_of_length_le (by rw [Array.length_toList]; exact Nat.le_refl _)
            rw [hn] at hl
            refine ⟨D, z.cps.toList.map (fun c => decide (97 ≤ c) && decide (c ≤ 122)), rfl, SqL.of (by rw [hl, List.map_map]; rfl), ?_⟩
            have e : letB z most = ((z.cps.toList.map (fun c => decide (97 ≤ c) && decide (c ≤ 122))).all id) := by
              unfold letB
              rw [decide_eq_true c1, decide_eq_true c2, List.all_map]
              rfl
            have q' := q H1 g
            rw [e] at q'
            exact q'
        · rw [decide_eq_false c2]
          refine iteT ?_
          have e : letB z most = false := by unfold letB; rw [decide_eq_false c2, Bool.and_false, Bool.false_and]
          have q' := q H (Same.refl H)
          rw [e] at q'
          exact q'
      · rw [if_neg (by rw [decide_eq_false c1]; exact Bool.false_ne_true)]
        refine ⟨false, rfl, iteT ?_⟩
        have e : letB z most = false := by unfold letB; rw [decide_eq_false c1, Bool.false_and, Bool.false_and]
        have q' := q H (Same.refl H)
        rw [e] at q'
        exact q'
    · refine ⟨_, rfl, _, _, _, _, false, rfl, .ty _, hA.ty, ns K, false, rfl, ?_⟩
      refine iteT (iteT ?_)
      have q' := q H (Same.refl H)
      rw [no most] at q'
      exact q'
end
end K11
namespace K11
open PySem L2 Nm
open C8 (Cal Mak pe_c pe_mk pe_gc)
open RZ (ItzT pi_zipA)
section
variable {P : Program} {w : World} {K : PySem.W.Frag} {mg : Str → Option Value} {base : Heap}
def sp_is_name (K : PySem.W.Frag) : Sp := fun vs H Q _ => ∃ (x : V), vs = [x] ∧ ∃ tp d, At tp H x d ∧ ∀ H', Same H H' → Q (.bl (letD d 8)) H'
theorem c_is_name (T : Txt K mg) : Cal P w K mg base 2 "is_name" (sp_is_name K) [] := by
  have C_is_lettered := c_is_lettered (P := P) (w := w) (base := base) T
  have sc := sc_is_name
  refine cal_of T.d_is_name sc (fun _ _ _ _ _ _ us hl => match us, hl with | [_], _ => rfl) (fun vs H Q E h => ?_) (fun f cdv A outer s H vs Q E hr h => ?_)
  · obtain ⟨x, rfl, _⟩ := h
    rfl
  · obtain ⟨x, rfl, h⟩ := h
    refine ⟨_, (pss_one (ps_ret (pe_c C_is_lettered hr (by omega) rfl (pa_cons (pv 0) (pa_cons pe_int pa_nil))))), ?_⟩
    obtain ⟨tp0, d, hA, q⟩ := h
    exact ⟨_, rfl, x, 8, rfl, _, d, hA, q⟩
end
end K11
namespace K11
open PySem L2 Nm
open C8 (Cal Mak pe_c pe_mk pe_gc)
open RZ (ItzT pi_zipA)
section
variable {P : Program} {w : World} {K : PySem.W.Frag} {mg : Str → Option Value} {base : Heap}
def sp_is_word (K : PySem.W.Frag) : Sp := fun vs H Q _ => ∃ (x : V), vs = [x] ∧ ∃ tp d, At tp H x d ∧ ∀ H', Same H H' → Q (.bl (letD d 20)) H'
theorem c_is_word (T : Txt K mg) : Cal P w K mg base 2 "is_word" (sp_is_word K) [] := by
  have C_is_lettered := c_is_lettered (P := P) (w := w) (base := base) T
  have sc := sc_is_word
  refine cal_of T.d_is_word sc (fun _ _ _ _ _ _ us hl => match us, hl with | [_], _ => rfl) (fun vs H Q E h => ?_) (fun f cdv A outer s H vs Q E hr h => ?_)
  · obtain ⟨x, rfl, _⟩ := h
    rfl
  · obtain ⟨x, rfl, h⟩ := h
    refine ⟨_, (pss_one (ps_ret (pe_c C_is_lettered hr (by omega) rfl (pa_cons (pv 0) (pa_cons pe_int pa_nil))))), ?_⟩
    obtain ⟨tp0, d, hA, q⟩ := h
    exact ⟨_, rfl, x, 20, rfl, _, d, hA, q⟩
end
end K11
namespace K11
open PySem L2 Nm
open C8 (Cal Mak pe_c pe_mk pe_gc)
open RZ (ItzT pi_zipA)
section
variable {P : Program} {w : World} {K : PySem.W.Frag} {mg : Str → Option Value} {base : Heap}
def sp_is_words (K : PySem.W.Frag) : Sp := fun vs H Q _ => ∃ (x : V) (most : Int), vs = [x, .int most] ∧ most ≤ 1000 ∧ ∃ tp d, At tp H x d ∧ ∀ H', Same H H' → Q (.bl (rowsD d most)) H'
theorem c_is_words (T : Txt K mg) : Cal P w K mg base 3 "is_words" (sp_is_words K) [] := by
  have C_is_word := c_is_word (P := P) (w := w) (base := base) T
  have sc := sc_is_words
  refine cal_of T.d_is_words sc (fun _ _ _ _ _ _ us hl => match us, hl with | [_, _], _ => rfl) (fun vs H Q E h => ?_) (fun f cdv A outer s H vs Q E hr h => ?_)
  · obtain ⟨x, most, rfl, _⟩ := h
    rfl
  · obtain ⟨x, most, rfl, h⟩ := h
    refine ⟨_, (pss_one (ps_ret (pe_and (pe_callB call_isi rfl T.m_isinstance (by decide +kernel) (pa_cons (pv 0) (pa_cons (pe_bltn (v := .ty "tuple") (u := .type "tuple") rfl T.m_tuple (by decide +kernel) rfl) pa_nil))) (pe_and (pe_cmpR op_le (pe_callB call_len_seq rfl T.m_len (by decide +kernel) (pa_cons (pv 0) pa_nil)) (pv 1) (nomark _)) (pe_one (pe_callB (cr_all rfl) rfl T.m_all (by decide +kernel) (pa_cons (pe_lc (own := [("word", 2)]) (g := gName 2) rfl sc.nd (pi_tup (pv 0)) (blkOk_by (own := [("word", 2)]) (N := ["thing", "most", "word"]) (sc := defScope s_is_words) (by decide +kernel)) (fun _ _ _ _ _ => (pg_name (i := 2) sc.nd rfl (Or.inl rfl))) (fun _ _ _ _ _ => pts_nil) (fun _ _ _ _ _ => (pe_c C_is_word hr (by omega) rfl (pa_cons (pv 2) pa_nil)))) pa_nil))))))), ?_⟩
    obtain ⟨m1, tp0, d, hA, q⟩ := h
    rcases tupOr hA with ⟨a, xs, ds, rfl, rfl, ha, pr⟩ | ⟨nt', no⟩
    · have el : xs.length = ds.length := paired_len pr
      refine ⟨_, rfl, _, _, _, _, true, rfl, .ty _, hA.ty, kit_ty (a := "tuple") (by decide +kernel), true, rfl, ?_⟩
      refine iteT ⟨_, rfl, a, _, rfl, .inr (SqT.of ha), _, rfl, _, _, rfl, rfl, decide ((xs.length : Int) ≤ most), rfl, ?_⟩
      by_cases c : (xs.length : Int) ≤ most
      · rw [decide_eq_true c]
        refine iteT ⟨_, rfl, a, rfl, ⟨_, SqT.of ha⟩, fun D hD => ?_⟩
        refine lc_tup (K := K) (a := a) (xs := xs) (fun i H1 => H1 D = some (.lst ((ds.take i).map fun e => V.bl (letD e 20))) ∧ Same H H1) ⟨upd_same, same_new hD⟩ (fun i H1 _ p => SqT.of (p.2 _ _ ha)) ?_ ?_
        · rintro i x H1 hx ⟨hl1, g⟩
          obtain ⟨e, he, hAe⟩ := paired_at pr i x hx
          refine ⟨rfl, ?_⟩
          refine ⟨_, rfl, x, rfl, _, e, At.same g e _ hAe, fun H2 g2 => ?_⟩
          refine ⟨_, g2 _ _ hl1, ?_, ?_, ?_⟩
          · rw [List.length_map, List.length_take]
            have b : (1000 : Nat) < sizeLine := by decide
            omega
          · rw [upd_same, take_one he, List.map_append]
            rfl
          · exact same_mut (g.trans g2) hD
        · rintro H1 ⟨hl1, g⟩
          rw [el, List.take_length] at hl1
          refine ⟨D, ds.map (fun e => letD e 20), rfl, SqL.of (by rw [hl1, List.map_map]; rfl), ?_⟩
          have e : rowsD (.tuple ds) most = (ds.map (fun e => letD e 20)).all id := by
            show (decide ((ds.length : Int) ≤ most) && ds.all (fun e => letD e 20)) = _
            rw [decide_eq_true (by omega), Bool.true_and, List.all_map]
            rfl
          have q' := q H1 g
          rw [e] at q'
          exact q'
      · rw [decide_eq_false c]
        refine iteF ?_
        have e : rowsD (.tuple ds) most = false := by
          show (decide ((ds.length : Int) ≤ most) && ds.all (fun e => letD e 20)) = _
          rw [decide_eq_false (by omega), Bool.false_and]
        have q' := q H (Same.refl H)
        rw [e] at q'
        exact q'
    · refine ⟨_, rfl, _, _, _, _, false, rfl, .ty _, hA.ty, nt' K, false, rfl, ?_⟩
      refine iteF ?_
      have q' := q H (Same.refl H)
      rw [rowsD_no no] at q'
      exact q'
end
end K11
namespace K11
open PySem L2 Nm
open C8 (Cal Mak pe_c pe_mk pe_gc)
open RZ (ItzT pi_zipA)
section
variable {P : Program} {w : World} {K : PySem.W.Frag} {mg : Str → Option Value} {base : Heap}
def sp_is_board (K : PySem.W.Frag) : Sp := fun vs H Q _ => ∃ (x : V), vs = [x] ∧ ∃ tp d, At tp H x d ∧ ∀ H', Same H H' → Q (.bl (boardD d)) H'
theorem c_is_board (T : Txt K mg) : Cal P w K mg base 4 "is_board" (sp_is_board K) [] := by
  have C_is_name := c_is_name (P := P) (w := w) (base := base) T
  have C_is_side := c_is_side (P := P) (w := w) (base := base) T
  have C_is_words := c_is_words (P := P) (w := w) (base := base) T
  have sc := sc_is_board
  refine cal_of T.d_is_board sc (fun _ _ _ _ _ _ us hl => match us, hl with | [_], _ => rfl) (fun vs H Q E h => ?_) (fun f cdv A outer s H vs Q E hr h => ?_)
  · obtain ⟨x, rfl, _⟩ := h
    rfl
  · obtain ⟨x, rfl, h⟩ := h
    refine ⟨_, (pss_cons (ps_if (PW.pt (pw_or (pt_not (pt_val (pe_callB call_isi rfl T.m_isinstance (by decide +kernel) (pa_cons (pv 0) (pa_cons (pe_bltn (v := .ty "tuple") (u := .type "tuple") rfl T.m_tuple (by decide +kernel) rfl) pa_nil))))) (pw_or1 (pt_cmpR op_ne (pe_callB call_len_seq rfl T.m_len (by decide +kernel) (pa_cons (pv 0) pa_nil)) pe_int (nomark _))))) (pss_one (ps_ret pe_bl)) pss_nil)
  (pss_cons (ps_asg (pv 0) (pg_tup rfl (pgs_cons (pg_name (i := 1) sc.nd rfl (Or.inl rfl)) (pgs_cons (pg_name (i := 2) sc.nd rfl (Or.inl rfl)) (pgs_cons (pg_name (i := 3) sc.nd rfl (Or.inl rfl)) pgs_nil)))))
  (pss_one (ps_ret (pe_and (pe_c C_is_name hr (by omega) rfl (pa_cons (pv 1) pa_nil)) (pe_and (pe_c C_is_side hr (by omega) rfl (pa_cons (pv 2) pa_nil)) (pe_one (pe_c C_is_words hr (by omega) rfl (pa_cons (pv 3) (pa_cons (pe_gc rfl T.g_MOST_BEGUN) pa_nil)))))))))), ?_⟩
    obtain ⟨tp0, d, hA, q⟩ := h
    have q0 := q H (Same.refl H)
    rcases tupOr hA with ⟨a, xs, ds, rfl, rfl, ha, pr⟩ | ⟨nt', no⟩
    rotate_left
    · refine ⟨_, rfl, _, _, _, _, false, rfl, .ty _, hA.ty, nt' K, false, rfl, ?_⟩
      refine iteT (iteT ?_)
      rw [boardD_no no] at q0
      exact q0
    have el : xs.length = ds.length := paired_len pr
    refine ⟨_, rfl, _, _, _, _, true, rfl, .ty _, hA.ty, kit_ty (a := "tuple") (by decide +kernel), true, rfl, ?_⟩
    refine iteF ⟨_, rfl, a, _, rfl, .inr (SqT.of ha), rfl, _, rfl, ?_⟩
    rw [decI]
    by_cases c : (xs.length : Int) = 3
    rotate_left
    · rw [decide_eq_false c]
      refine iteT ?_
      rw [boardD_len (by omega)] at q0
      exact q0
    rw [decide_eq_true c]
    match xs, ds, pr, c with
    | [x1, x2, x3], [d1, d2, d3], .cons h1 (.cons h2 (.cons h3 .nil)), _ =>
      refine iteF ⟨_, rfl, a, _, rfl, SqT.of ha, rfl, _, _, rfl, _, _, rfl, _, _, rfl, rfl, ?_⟩
      refine ⟨_, rfl, x1, rfl, _, d1, h1, fun H1 g1 => ⟨letD d1 8, rfl, ?_⟩⟩
      have e : boardD (.tuple [d1, d2, d3]) = (letD d1 8 && (intIn d2 0 1 && rowsD d3 20)) := rfl
      cases e1 : letD d1 8 with
      | false =>
        refine iteF ?_
        rw [e1, Bool.false_and] at e
        have q' := q H1 g1
        rw [e] at q'
        exact q'
      | true =>
        rw [e1, Bool.true_and] at e
        refine iteT ⟨_, rfl, x2, rfl, _, d2, At.same g1 d2 _ h2, intIn d2 0 1, rfl, ?_⟩
        cases e2 : intIn d2 0 1 with
        | false =>
          refine iteF ?_
          rw [e2, Bool.false_and] at e
          have q' := q H1 g1
          rw [e] at q'
          exact q'
        | true =>
          rw [e2, Bool.true_and] at e
          refine iteT ⟨_, rfl, x3, 20, rfl, by decide, _, d3, At.same g1 d3 _ h3, fun H2 g2 => ?_⟩
          have q' := q H2 (g1.trans g2)
          rw [e] at q'
          exact q'
end
end K11
namespace K11
open PySem L2 Nm
open C8 (Cal Mak pe_c pe_mk pe_gc)
open RZ (ItzT pi_zipA)
section
variable {P : Program} {w : World} {K : PySem.W.Frag} {mg : Str → Option Value} {base : Heap}
def sp_names_of (K : PySem.W.Frag) : Sp := fun vs H Q _ => ∃ (a : Addr) (bs : List Bd), vs = [.ref a] ∧ BoardsAt H a bs ∧ bs.length < 64 ∧ ∀ H' p ys, Same H H' → H p = none → H' p = some (.tup (ys.map V.str)) → Names (bs.map (·.1)) ys → Q (.ref p) H'
theorem c_names_of (T : Txt K mg) : Cal P w K mg base 1 "names_of" (sp_names_of K) [] := by
  have sc := sc_names_of
  refine cal_of T.d_names_of sc (fun _ _ _ _ _ _ us hl => match us, hl with | [_], _ => rfl) (fun vs H Q E h => ?_) (fun f cdv A outer s H vs Q E hr h => ?_)
  · obtain ⟨a, bs, rfl, _⟩ := h
    rfl
  · obtain ⟨a, bs, rfl, h⟩ := h
    refine ⟨_, (pss_one (ps_ret (pe_callTy call_tuple_of rfl T.m_tuple (by decide +kernel) (pa_cons (pe_callB (Nm.cr_sortTx rfl) rfl T.m_sorted (by decide +kernel) (pa_cons (Nm.pe_nm (own := [("board", 1)]) (g := gName 1) rfl sc.nd (pi_tup (pv 0)) (blkOk_by (own := [("board", 1)]) (N := ["boards", "board"]) (sc := defScope s_names_of) (by decide +kernel)) (fun _ _ _ _ _ => (pg_name (i := 1) sc.nd rfl (Or.inl rfl))) (fun _ _ _ _ _ => (pe_ix (r := rIxT K) ix_tup (pv 1) pe_int (fun _ _ => rfl)))) pa_nil)) pa_nil)))), ?_⟩
    obtain ⟨⟨xs, ha, pr⟩, hl, q⟩ := h
    refine ⟨_, rfl, a, rfl, ⟨_, SqT.of ha⟩, fun D hD => ?_⟩
    refine nm_tup (K := K) (a := a) (xs := xs) (fun i H1 => H1 D = some (TxO w D (gathered ((bs.take i).map (·.1)))) ∧ Same H H1) ⟨upd_same, same_new hD⟩ (fun i H1 _ p => SqT.of (p.2 _ _ ha)) ?_ ?_
    · rintro i x H1 hx ⟨hl1, g⟩
      obtain ⟨b, hb, c, r, rfl, h1, h2⟩ := paired_at pr i x hx
      refine ⟨rfl, ?_⟩
      refine ⟨_, rfl, c, _, 0, .str b.1, rfl, rfl, SqT.of (g _ _ h1), rfl, b.1, _, rfl, hl1, ?_, ?_, ?_⟩
      · have z := (gathered_facts ((bs.take i).map (·.1))).2.2
        rw [List.length_map, List.length_take] at z
        have : (64 : Nat) + 1 < scanBound := by decide
        omega
      · rw [upd_same, take_one hb, List.map_append]
        show some (TxO w D (plus (gathered ((bs.take i).map (·.1))) b.1)) = some (TxO w D (gathered ((bs.take i).map (·.1) ++ [b.1])))
        rw [gathered_snoc]
      · exact same_mut g hD
    · rintro H1 ⟨hl1, g⟩
      have el : xs.length = bs.length := paired_len pr
      rw [el, List.take_length] at hl1
      obtain ⟨f1, f2, f3⟩ := gathered_facts (bs.map (·.1))
      rw [List.length_map] at f3
      refine ⟨D, _, rfl, hl1, by omega, fun ys p pm up hp => ?_⟩
      have g2 : Same H (upd H1 p (.lst (ys.map V.str))) := g.trans (same_new hp)
      refine ⟨p, _, rfl, .inl ⟨SqL.of upd_same, fun l hl => ?_⟩⟩
      refine q _ l ys (g2.trans (same_new hl)) (g2.free hl) upd_same ⟨up, pm.nodup_iff.mpr f1, fun x => ?_⟩
      rw [pm.mem_iff]
      exact f2 x
end
end K11
namespace K11
open PySem L2 Nm
open C8 (Cal Mak pe_c pe_mk pe_gc)
open RZ (ItzT pi_zipA)
section
variable {P : Program} {w : World} {K : PySem.W.Frag} {mg : Str → Option Value} {base : Heap}
def sp__law_tape (K : PySem.W.Frag) : Sp := fun vs H Q _ => ∃ (a : Addr), vs = [.ref a] ∧ ∃ ns : List Int, SqL K H a (ns.map V.int) ∧ ∀ tp l H', Same H H' → H tp = none → TapeAt H' tp l → Q (.ref tp) H'
theorem c__law_tape (T : Txt K mg) : Cal P w K mg base 1 "_law_tape" (sp__law_tape K) [] := by
  have sc := sc__law_tape
  refine cal_of T.d__law_tape sc (fun _ _ _ _ _ _ us hl => match us, hl with | [_], _ => rfl) (fun vs H Q E h => ?_) (fun f cdv A outer s H vs Q E hr h => ?_)
  · obtain ⟨a, rfl, _⟩ := h
    rfl
  · obtain ⟨a, rfl, h⟩ := h
    refine ⟨_, (pss_one (ps_ret (pe_lst (pa_cons (pe_callTy call_list_of rfl T.m_list (by decide +kernel) (pa_cons (pv 0) pa_nil)) (pa_cons pe_int (pa_cons pe_int (pa_cons pe_int (pa_cons pe_int pa_nil)))))))), ?_⟩
    obtain ⟨ns, hs, q⟩ := h
    refine ⟨_, rfl, a, _, rfl, .inl hs, fun l hl => ⟨(by show 5 ≤ PySem.sizeLine; decide), fun tp ht => ?_⟩⟩
    have g1 : Same H (upd H l (.lst (ns.map V.int))) := same_new hl
    exact q tp l _ (g1.trans (same_new ht)) (g1.free ht) ⟨ns, 0, 0, 1, 0, upd_same, same_new ht _ _ upd_same, Int.le_refl 0⟩
end
end K11
namespace K11
open PySem L2 Nm
open C8 (Cal Mak pe_c pe_mk pe_gc)
open RZ (ItzT pi_zipA)
section
variable {P : Program} {w : World} {K : PySem.W.Frag} {mg : Str → Option Value} {base : Heap}
def sp__law_pick (K : PySem.W.Frag) : Sp := fun vs H Q _ => ∃ (tp : Addr) (size : Int), vs = [.ref tp, .int size] ∧ ∃ l, TapeAt H tp l ∧ 1 ≤ size ∧ size ≤ 1000 ∧ ∀ r H', 0 ≤ r → r < size → TapeAt H' tp l → Mov tp H H' → Q (.int r) H'
theorem c__law_pick (T : Txt K mg) : Cal P w K mg base 1 "_law_pick" (sp__law_pick K) [] := by
  have sc := sc__law_pick
  refine cal_of T.d__law_pick sc (fun _ _ _ _ _ _ us hl => match us, hl with | [_, _], _ => rfl) (fun vs H Q E h => ?_) (fun f cdv A outer s H vs Q E hr h => ?_)
  · obtain ⟨tp, size, rfl, _⟩ := h
    rfl
  · obtain ⟨tp, size, rfl, h⟩ := h
    refine ⟨_, (pss_cons (ps_if (pt_cmpR op_gt (pe_ix ix_list (pv 0) pe_int (fun _ _ => rfl)) pe_int (nomark _)) (pss_cons (ps_set (i := 2) sc.nd rfl (Or.inl rfl) (pe_op op_mod (pe_callTy call_int1 rfl T.m_int (by decide +kernel) (pa_cons (pe_ix ix_list (pv 0) pe_int (fun _ _ => rfl)) pa_nil)) (pv 1)))
  (pss_cons (ps_asg (pe_op op_fdiv (pe_ix ix_list (pv 0) pe_int (fun _ _ => rfl)) (pv 1)) (pg_sub (pv 0) pe_int set_list))
  (pss_one (ps_ret (pv 2))))) pss_nil)
  (pss_cons (ps_asg (pe_op op_add (pe_ix ix_list (pv 0) pe_int (fun _ _ => rfl)) pe_int) (pg_sub (pv 0) pe_int set_list))
  (pss_cons (ps_set (i := 3) sc.nd rfl (Or.inl rfl) pe_int)
  (C8.pss_cut (ps_if (pt_cmpR op_lt (pe_ix ix_list (pv 0) pe_int (fun _ _ => rfl)) (pe_callB call_len_seq rfl T.m_len (by decide +kernel) (pa_cons (pe_ix ix_list (pv 0) pe_int (fun _ _ => rfl)) pa_nil)) (nomark _)) (pss_cons (ps_set (i := 3) sc.nd rfl (Or.inl rfl) (pe_ix ix_list (pe_ix ix_list (pv 0) pe_int (fun _ _ => rfl)) (pe_ix ix_list (pv 0) pe_int (fun _ _ => rfl)) (fun _ _ => rfl)))
  (pss_one (ps_asg (pe_op op_add (pe_ix ix_list (pv 0) pe_int (fun _ _ => rfl)) pe_int) (pg_sub (pv 0) pe_int set_list)))) pss_nil)
  (pss_cons (ps_if (pt_cmpR op_ge (pv 3) (pe_op op_pow pe_int pe_int) (nomark _)) (pss_cons (ps_asg (pe_op op_fdiv (pv 3) (pv 1)) (pg_sub (pv 0) pe_int set_list))
  (pss_one (ps_ret (pe_op op_mod (pe_callTy call_int1 rfl T.m_int (by decide +kernel) (pa_cons (pv 3) pa_nil)) (pv 1))))) pss_nil)
  (pss_cons (ps_set (i := 4) sc.nd rfl (Or.inl rfl) (pe_op op_mod (pe_callTy call_int1 rfl T.m_int (by decide +kernel) (pa_cons (pe_op op_add (pe_op op_add (pe_op op_mul (pe_ix ix_list (pv 0) pe_int (fun _ _ => rfl)) pe_int) (pe_op op_mod (pe_callTy call_int1 rfl T.m_int (by decide +kernel) (pa_cons (pv 3) pa_nil)) pe_int)) (pe_op op_mul (pe_ix ix_list (pv 0) pe_int (fun _ _ => rfl)) pe_int)) pa_nil)) pe_int))
  (pss_cons (ps_set (i := 4) sc.nd rfl (Or.inl rfl) (pe_op op_mod (pe_callTy call_int1 rfl T.m_int (by decide +kernel) (pa_cons (pe_op op_mul (pv 4) (pe_op op_add (pe_op op_fdiv (pv 4) pe_int) pe_int)) pa_nil)) pe_int))
  (pss_cons (ps_asg (pv 4) (pg_sub (pv 0) pe_int set_list))
  (pss_one (ps_ret (pe_op op_mod (pe_callTy call_int1 rfl T.m_int (by decide +kernel) (pa_cons (pe_op op_fdiv (pv 4) pe_int) pa_nil)) (pv 1)))))))))))), ?_⟩
    obtain ⟨l, ⟨ns, i, c, m, n, ht, hl, h0⟩, s1, s2, q⟩ := h
    have nl : l ≠ tp := tape_ne ht hl
    have pos : (0 : Int) < size := by omega
    refine ⟨_, rfl, tp, _, 2, .int c, rfl, rfl, SqL.of ht, rfl, _, _, rfl, rfl, _, rfl, ?_⟩
    refine ite2 (fun _ => ?_) (fun _ => ?_)
    · refine ⟨_, rfl, tp, _, 2, .int c, rfl, rfl, SqL.of ht, rfl, .inl ⟨c, rfl, _, rfl, c, size, rfl, rfl, pos, ?_⟩⟩
      refine ⟨_, rfl, tp, _, 2, .int c, rfl, rfl, SqL.of ht, rfl, _, rfl, c, size, rfl, rfl, ⟨pos, by omega⟩, ?_⟩
      refine ⟨_, rfl, tp, _, 2, 2, rfl, rfl, ht, rfl, _, rfl, ?_⟩
      exact q _ _ (Int.emod_nonneg _ (by omega)) (Int.emod_lt_of_pos _ pos) ⟨ns, i, c / size, m, n, upd_same, by rw [upd_ne nl]; exact hl, h0⟩ mov_upd
    · refine ⟨_, rfl, tp, _, 4, .int n, rfl, rfl, SqL.of ht, rfl, n, 1, rfl, rfl, _, rfl, tp, _, 4, 4, rfl, rfl, ht, rfl, ?_⟩
      have ht1 : upd H tp (.lst [.ref l, .int i, .int c, .int m, .int (n + 1)]) tp = some (.lst [.ref l, .int i, .int c, .int m, .int (n + 1)]) := upd_same
      have hl1 : upd H tp (.lst [.ref l, .int i, .int c, .int m, .int (n + 1)]) l = some (.lst (ns.map V.int)) := by
        rw [upd_ne nl]
        exact hl
      refine ⟨fun σ H1 => ∃ cell j, σ = [some (.ref tp), some (.int size), none, some (.int cell), none] ∧ 0 ≤ j ∧ H1 tp = some (.lst [.ref l, .int j, .int c, .int m, .int (n + 1)]) ∧ H1 l = some (.lst (ns.map V.int)) ∧ Mov tp H H1, ?_, ?_⟩
      · refine ⟨_, rfl, tp, _, 1, .int i, rfl, rfl, SqL.of ht1, rfl, _, rfl, tp, _, 0, .ref l, rfl, rfl, SqL.of ht1, rfl, l, _, rfl, .inl (SqL.of hl1), _, _, rfl, rfl, _, rfl, ?_⟩
        rw [List.length_map]
        refine ite2 (fun z => ?_) (fun _ => ?_)
        · have z' : i < (ns.length : Int) := of_decide_eq_true z
          have at1 : atI (ns.map V.int) i = some (V.int (ns.getD i.toNat 0)) := by
            have e : i = ((i.toNat : Nat) : Int) := by omega
            rw [e, Int.toNat_natCast]
            exact at_getD (by omega)
          refine ⟨_, rfl, tp, _, 0, .ref l, rfl, rfl, SqL.of ht1, rfl, _, rfl, tp, _, 1, .int i, rfl, rfl, SqL.of ht1, rfl, l, _, i, _, rfl, rfl, SqL.of hl1, at1, ?_⟩
          refine ⟨_, rfl, tp, _, 1, .int i, rfl, rfl, SqL.of ht1, rfl, i, 1, rfl, rfl, _, rfl, tp, _, 1, 1, rfl, rfl, ht1, rfl, ?_⟩
          exact ⟨_, i + 1, rfl, by omega, upd_same, by rw [upd_ne nl]; exact hl1, mov_upd.trans mov_upd⟩
        · exact ⟨0, i, rfl, h0, ht1, hl1, mov_upd⟩
      · rintro σ H1 ⟨cell, j, rfl, j0, ht2, hl2, mv⟩
        refine ⟨_, rfl, _, _, rfl, rfl, ⟨by decide, by decide, by decide⟩, _, _, rfl, rfl, _, rfl, ?_⟩
        refine ite2 (fun _ => ?_) (fun _ => ?_)
        · refine ⟨_, rfl, _, rfl, cell, size, rfl, rfl, ⟨pos, by omega⟩, _, rfl, tp, _, 2, 2, rfl, rfl, ht2, rfl, ?_⟩
          refine ⟨_, rfl, .inl ⟨cell, rfl, _, rfl, cell, size, rfl, rfl, pos, ?_⟩⟩
          exact q _ _ (Int.emod_nonneg _ (by omega)) (Int.emod_lt_of_pos _ pos) ⟨ns, j, cell / size, m, n + 1, upd_same, by rw [upd_ne nl]; exact hl2, j0⟩ (mv.trans mov_upd)
        · refine ⟨_, rfl, tp, _, 3, .int m, rfl, rfl, SqL.of ht2, rfl, _, _, rfl, rfl, .inr ⟨by decide, by decide⟩, _, rfl, .inl ⟨cell, rfl, cell, _, rfl, rfl, (by show (0 : Int) < _; decide), ?_⟩⟩
          refine ⟨_, _, rfl, rfl, _, rfl, tp, _, 4, .int (n + 1), rfl, rfl, SqL.of ht2, rfl, _, _, rfl, rfl, .inr ⟨by decide, by decide⟩, ?_⟩
          refine ⟨_, _, rfl, rfl, .inl ⟨_, rfl, _, _, rfl, rfl, (by show (0 : Int) < _; decide), ?_⟩⟩
          have x0 : 0 ≤ (m * 48271 + cell % 2147483629 + (n + 1) * 69621) % 2147483647 := Int.emod_nonneg _ (by decide)
          have x1 : (m * 48271 + cell % 2147483629 + (n + 1) * 69621) % 2147483647 < 2147483647 := Int.emod_lt_of_pos _ (by decide)
          refine ⟨_, rfl, _, rfl, _, _, rfl, rfl, ⟨by decide, by decide⟩, _, _, rfl, rfl, _, _, rfl, rfl, .inl ⟨by omega, by omega⟩, .inl ⟨_, rfl, _, _, rfl, rfl, (by show (0 : Int) < _; decide), ?_⟩⟩
          refine ⟨_, rfl, _, rfl, tp, _, 3, 3, rfl, rfl, ht2, rfl, ?_⟩
          refine ⟨_, rfl, _, _, rfl, rfl, ⟨by decide, by decide⟩, .inl ⟨_, rfl, _, rfl, _, size, rfl, rfl, pos, ?_⟩⟩
          exact q _ _ (Int.emod_nonneg _ (by omega)) (Int.emod_lt_of_pos _ pos) ⟨ns, j, c, _, n + 1, upd_same, by rw [upd_ne nl]; exact hl2, j0⟩ (mv.trans mov_upd)
end
end K11
namespace K11
open PySem L2 Nm
open C8 (Cal Mak pe_c pe_mk pe_gc)
open RZ (ItzT pi_zipA)
theorem at_ok {xs : List V} {r : Int} (h0 : 0 ≤ r) (h1 : r < (xs.length : Int)) : ∃ x, atI xs r = some x ∧ x ∈ xs := by
  obtain ⟨k, rfl⟩ : ∃ k : Nat, r = (k : Int) := ⟨r.toNat, by omega⟩
  have e : xs[k]? = some (xs[k]'(by omega)) := List.getElem?_eq_getElem (by omega)
  exact ⟨_, atI_nat e, List.mem_of_getElem? e⟩
section
variable {P : Program} {w : World} {K : PySem.W.Frag} {mg : Str → Option Value} {base : Heap}
def sp__law_some (K : PySem.W.Frag) : Sp := fun vs H Q _ => ∃ (tp p : Addr), vs = [.ref tp, .ref p] ∧ ∃ l xs, TapeAt H tp l ∧ H p = some (.lst xs) ∧ p ≠ tp ∧ 1 ≤ xs.length ∧ xs.length ≤ 1000 ∧ ∀ (x : V) (H' : Hp), x ∈ xs → TapeAt H' tp l → Mov tp H H' → Q x H'
theorem c__law_some (T : Txt K mg) : Cal P w K mg base 2 "_law_some" (sp__law_some K) [] := by
  have C__law_pick := c__law_pick (P := P) (w := w) (base := base) T
  have sc := sc__law_some
  refine cal_of T.d__law_some sc (fun _ _ _ _ _ _ us hl => match us, hl with | [_, _], _ => rfl) (fun vs H Q E h => ?_) (fun f cdv A outer s H vs Q E hr h => ?_)
  · obtain ⟨tp, p, rfl, _⟩ := h
    rfl
  · obtain ⟨tp, p, rfl, h⟩ := h
    refine ⟨_, (pss_one (ps_ret (pe_ix ix_list (pv 1) (pe_c C__law_pick hr (by omega) rfl (pa_cons (pv 0) (pa_cons (pe_callB call_len_seq rfl T.m_len (by decide +kernel) (pa_cons (pv 1) pa_nil)) pa_nil))) (fun _ _ => rfl)))), ?_⟩
    obtain ⟨l, xs, t, hp, np, l1, l2', q⟩ := h
    refine ⟨_, rfl, _, rfl, _, rfl, p, _, rfl, .inl (SqL.of hp), tp, _, rfl, l, t, by omega, by omega, fun r H1 r0 r1 t1 mv => ?_⟩
    obtain ⟨x, hx, mx⟩ := at_ok r0 r1
    exact ⟨p, _, r, x, rfl, rfl, SqL.of (mv _ _ hp np), hx, q x H1 mx t1 mv⟩
end
end K11
namespace K11
open PySem L2 Nm
open C8 (Cal Mak pe_c pe_mk pe_gc)
open RZ (ItzT pi_zipA)
def wordOk (z : Str) : Prop := letB z 20 = true ∧ z.length ≤ 1000
theorem few_ok : ∀ x ∈ [V.str "a", V.str "b", V.str "c", V.str "a", V.str "b", V.str "ab", V.str "zz", V.str "c", V.str "aa", V.str "qwertyuiopasdfghjklz"], ∃ z, x = .str z ∧ wordOk z := by
  intro x hx
  simp only [List.mem_cons, List.not_mem_nil, or_false] at hx
  rcases hx with rfl | rfl | rfl | rfl | rfl | rfl | rfl | rfl | rfl | rfl <;> exact ⟨_, rfl, by decide +kernel, by decide +kernel⟩
section
variable {P : Program} {w : World} {K : PySem.W.Frag} {mg : Str → Option Value} {base : Heap}
def sp__law_word (K : PySem.W.Frag) : Sp := fun vs H Q _ => ∃ (tp : Addr), vs = [.ref tp] ∧ ∃ l, TapeAt H tp l ∧ ∀ z H', wordOk z → TapeAt H' tp l → Mov tp H H' → Q (.str z) H'
theorem c__law_word (T : Txt K mg) : Cal P w K mg base 2 "_law_word" (sp__law_word K) [] := by
  have C__law_pick := c__law_pick (P := P) (w := w) (base := base) T
  have sc := sc__law_word
  refine cal_of T.d__law_word sc (fun _ _ _ _ _ _ us hl => match us, hl with | [_], _ => rfl) (fun vs H Q E h => ?_) (fun f cdv A outer s H vs Q E hr h => ?_)
  · obtain ⟨tp, rfl, _⟩ := h
    rfl
  · obtain ⟨tp, rfl, h⟩ := h
    refine ⟨_, (pss_cons (ps_set (i := 1) sc.nd rfl (Or.inl rfl) (pe_lst (pa_cons pe_str (pa_cons pe_str (pa_cons pe_str (pa_cons pe_str (pa_cons pe_str (pa_cons pe_str (pa_cons pe_str (pa_cons pe_str (pa_cons pe_str (pa_cons pe_str pa_nil))))))))))))
  (pss_one (ps_ret (pe_ix ix_list (pv 1) (pe_c C__law_pick hr (by omega) rfl (pa_cons (pv 0) (pa_cons pe_int pa_nil))) (fun _ _ => rfl))))), ?_⟩
    obtain ⟨l, t, q⟩ := h
    refine ⟨(by show 10 ≤ PySem.sizeLine; decide), fun p hp => ?_⟩
    have np := t.new hp
    have g := same_new (o := .lst [V.str "a", V.str "b", V.str "c", V.str "a", V.str "b", V.str "ab", V.str "zz", V.str "c", V.str "aa", V.str "qwertyuiopasdfghjklz"]) hp
    refine ⟨_, rfl, _, rfl, tp, 10, rfl, l, t.same g, by decide, by decide, fun r H1 r0 r1 t1 mv => ?_⟩
    obtain ⟨x, hx, mx⟩ := at_ok (xs := [V.str "a", V.str "b", V.str "c", V.str "a", V.str "b", V.str "ab", V.str "zz", V.str "c", V.str "aa", V.str "qwertyuiopasdfghjklz"]) r0 r1
    obtain ⟨z, rfl, hz⟩ := few_ok x mx
    exact ⟨p, _, r, _, rfl, rfl, SqL.of (mv _ _ upd_same np.1), hx, q z H1 hz t1 ((mov_same g).trans mv)⟩
end
end K11
namespace K11
open PySem L2 Nm
open C8 (Cal Mak pe_c pe_mk pe_gc)
open RZ (ItzT pi_zipA)
section
variable {P : Program} {w : World} {K : PySem.W.Frag} {mg : Str → Option Value} {base : Heap}
def sp__law_line (K : PySem.W.Frag) : Sp := fun vs H Q _ => ∃ (tp : Addr) (many : Int), vs = [.ref tp, .int many] ∧ ∃ l, TapeAt H tp l ∧ 0 ≤ many ∧ many ≤ 100 ∧ ∀ (r : Addr) (ws : List Str) (H' : Hp), H' r = some (.tup (ws.map V.str)) → (∀ z ∈ ws, wordOk z) → (ws.length : Int) = many → TapeAt H' tp l → Mov tp H H' → Q (.ref r) H'
theorem c__law_line (T : Txt K mg) : Cal P w K mg base 3 "_law_line" (sp__law_line K) [] := by
  have C__law_word := c__law_word (P := P) (w := w) (base := base) T
  have sc := sc__law_line
  refine cal_of T.d__law_line sc (fun _ _ _ _ _ _ us hl => match us, hl with | [_, _], _ => rfl) (fun vs H Q E h => ?_) (fun f cdv A outer s H vs Q E hr h => ?_)
  · obtain ⟨tp, many, rfl, _⟩ := h
    rfl
  · obtain ⟨tp, many, rfl, h⟩ := h
    refine ⟨_, (pss_one (ps_ret (pe_callTy call_tuple_of rfl T.m_tuple (by decide +kernel) (pa_cons (pe_lc (own := [("k", 2)]) (g := gName 2) rfl sc.nd (pi_range1 rfl T.m_range (pa_cons (pv 1) pa_nil)) (blkOk_by (own := [("k", 2)]) (N := ["tape", "many", "k"]) (sc := defScope s__law_line) (by decide +kernel)) (fun _ _ _ _ _ => (pg_name (i := 2) sc.nd rfl (Or.inl rfl))) (fun _ _ _ _ _ => pts_nil) (fun _ _ _ _ _ => (pe_c C__law_word hr (by omega) rfl (pa_cons (pv 0) pa_nil)))) pa_nil)))), ?_⟩
    obtain ⟨l, t0, m0, m1, q⟩ := h
    refine ⟨_, rfl, many, rfl, by omega, by omega, fun D hD => ?_⟩
    have nD := t0.new hD
    refine lc_range (lo := 0) (n := many.toNat) (fun i H1 => ∃ ws : List Str, H1 D = some (.lst (ws.map V.str)) ∧ (∀ z ∈ ws, wordOk z) ∧ ws.length = i ∧ TapeAt H1 tp l ∧ Mov tp H H1) ⟨[], upd_same, fun z hz => absurd hz (List.not_mem_nil), rfl, t0.upd nD, mov_mut (Mov.refl tp H) hD⟩ ?_ ?_
    · rintro i H1 hi ⟨ws, h1, ok, lw, t1, mv⟩
      refine ⟨rfl, ?_⟩
      refine ⟨_, rfl, tp, rfl, l, t1, fun z H2 hz t2 mv2 => ?_⟩
      have h2 : H2 D = some (.lst (ws.map V.str)) := mv2 _ _ h1 nD.1
      refine ⟨_, h2, ?_, ws ++ [z], ?_, ?_, by rw [List.length_append, lw]; rfl, t2.upd nD, mov_mut (mv.trans mv2) hD⟩
      · rw [List.length_map]
        have b : (1000 : Nat) < PySem.sizeLine := by decide
        omega
      · rw [upd_same, List.map_append]
        rfl
      · intro y hy
        rcases List.mem_append.mp hy with c | c
        · exact ok y c
        · rw [List.mem_singleton.mp c]
          exact hz
    · rintro H1 ⟨ws, h1, ok, lw, t1, mv⟩
      refine ⟨D, _, rfl, .inl ⟨SqL.of h1, fun p hp => ?_⟩⟩
      have g := same_new (o := .tup (ws.map V.str)) hp
      exact q p ws _ upd_same ok (by omega) (t1.same g) (mv.trans (mov_same g))
end
end K11
namespace K11
open PySem L2 Nm
open C8 (Cal Mak pe_c pe_mk pe_gc)
open RZ (ItzT pi_zipA)
/-- a drawn board -/
def drawn (b : Bd) : Prop := okB b ∧ b.2.2.length ≤ 3
theorem word_row {ws : List Str} (h : ∀ z ∈ ws, wordOk z) (l : ws.length ≤ 20) : rowB ws 20 = true := by
  unfold rowB
  rw [decide_eq_true (show ((ws.length : Nat) : Int) ≤ 20 by omega), Bool.true_and, List.all_eq_true]
  exact fun z hz => (h z hz).1
theorem drawn_ok {n : Str} {s : Int} {ws : List Str} (hn : letB n 8 = true) (ln : n.length ≤ 1000) (h0 : 0 ≤ s) (h1 : s < 2) (h : ∀ z ∈ ws, wordOk z) (l : ws.length ≤ 20) : okB (n, s, ws) := by
  refine ⟨?_, ln, by show ws.length ≤ 1000; omega, fun z hz => (h z hz).2⟩
  show (letB n 8 && ((decide (0 ≤ s) && decide (s ≤ 1)) && rowB ws 20)) = true
  rw [hn, word_row h l, decide_eq_true h0, decide_eq_true (show s ≤ 1 by omega)]
  rfl
theorem names_ok : ∀ x ∈ [V.str "p", V.str "q", V.str "pq"], ∃ z, x = .str z ∧ letB z 8 = true ∧ z.length ≤ 1000 := by
  intro x hx
  simp only [List.mem_cons, List.not_mem_nil, or_false] at hx
  rcases hx with rfl | rfl | rfl <;> exact ⟨_, rfl, by decide +kernel, by decide +kernel⟩
/-- a row stands there -/
def RowAt (H : Hp) (r : Addr) (ws : List Str) : Prop := H r = some (.tup (ws.map V.str)) ∧ ∀ z ∈ ws, wordOk z
theorem RowAt.mov {tp l : Addr} {H H' : Hp} {r : Addr} {ws : List Str} (h : RowAt H r ws) (t : TapeAt H tp l) (m : Mov tp H H') : RowAt H' r ws := ⟨(t.keep m).tups _ _ h.1, h.2⟩
section
variable {P : Program} {w : World} {K : PySem.W.Frag} {mg : Str → Option Value} {base : Heap}
def sp__law_boards (K : PySem.W.Frag) : Sp := fun vs H Q _ => ∃ (tp : Addr) (most : Int) (bg : Bool), vs = [.ref tp, .int most, .bl bg] ∧ ∃ l, TapeAt H tp l ∧ 1 ≤ most ∧ most ≤ 12 ∧
  ∀ (r : Addr) (bs : List Bd) (H' : Hp), BoardsAt H' r bs → (∀ b ∈ bs, drawn b) → 1 ≤ bs.length → (bs.length : Int) ≤ most → TapeAt H' tp l → Mov tp H H' → Q (.ref r) H'
theorem c__law_boards (T : Txt K mg) : Cal P w K mg base 4 "_law_boards" (sp__law_boards K) [] := by
  have C__law_line := c__law_line (P := P) (w := w) (base := base) T
  have C__law_pick := c__law_pick (P := P) (w := w) (base := base) T
  have C__law_some := c__law_some (P := P) (w := w) (base := base) T
  have sc := sc__law_boards
  refine cal_of T.d__law_boards sc (fun _ _ _ _ _ _ us hl => match us, hl with | [_, _, _], _ => rfl) (fun vs H Q E h => ?_) (fun f cdv A outer s H vs Q E hr h => ?_)
  · obtain ⟨tp, most, bg, rfl, _⟩ := h
    rfl
  · obtain ⟨tp, most, bg, rfl, h⟩ := h
    refine ⟨_, (pss_cons (ps_set (i := 3) sc.nd rfl (Or.inl rfl) (pe_op op_add pe_int (pe_callB (call_max2 rfl) rfl T.m_max (by decide +kernel) (pa_cons (pe_c C__law_pick hr (by omega) rfl (pa_cons (pv 0) (pa_cons (pv 1) pa_nil))) (pa_cons (pe_c C__law_pick hr (by omega) rfl (pa_cons (pv 0) (pa_cons (pv 1) pa_nil))) pa_nil)))))
  (pss_cons (ps_set (i := 4) sc.nd rfl (Or.inl rfl) (pe_slice sl_list (pe_lst (pa_cons pe_str (pa_cons pe_str (pa_cons pe_str pa_nil)))) po_none (po_some (pe_op op_add pe_int (pe_c C__law_pick hr (by omega) rfl (pa_cons (pv 0) (pa_cons pe_int pa_nil)))))))
  (pss_cons (ps_set (i := 5) sc.nd rfl (Or.inl rfl) (pe_c C__law_line hr (by omega) rfl (pa_cons (pv 0) (pa_cons pe_int pa_nil))))
  (pss_cons (ps_set (i := 6) sc.nd rfl (Or.inl rfl) (pe_op op_catA (pe_slice sl_tupA (pv 5) po_none (po_some (pe_op op_add pe_int (pe_c C__law_pick hr (by omega) rfl (pa_cons (pv 0) (pa_cons pe_int pa_nil)))))) (pe_c C__law_line hr (by omega) rfl (pa_cons (pv 0) (pa_cons pe_int pa_nil)))))
  (pss_cons (ps_set (i := 7) sc.nd rfl (Or.inl rfl) (pe_lst pa_nil))
  (pss_cons (ps_for PassesOwn.never rfl (pi_range1 rfl T.m_range (pa_cons (pv 3) pa_nil)) (pg_name (i := 8) sc.nd rfl (Or.inl rfl)) (pss_cons (ps_set (i := 9) sc.nd rfl (Or.inl rfl) (pe_tup pa_nil))
  (C8.pss_cut (ps_if (PW.pt (pw_and (pt_val (pv 2)) (pw_and1 (pt_cmpR op_gt (pe_c C__law_pick hr (by omega) rfl (pa_cons (pv 0) (pa_cons pe_int pa_nil))) pe_int (nomark _))))) (pss_one (ps_set (i := 9) sc.nd rfl (Or.inl rfl) (pe_slice sl_tupA (pe_c C__law_some hr (by omega) rfl (pa_cons (pv 0) (pa_cons (pe_lst (pa_cons (pv 5) (pa_cons (pv 5) (pa_cons (pv 6) pa_nil)))) pa_nil))) po_none (po_some (pe_c C__law_pick hr (by omega) rfl (pa_cons (pv 0) (pa_cons pe_int pa_nil))))))) pss_nil)
  (pss_one (ps_expr (pe_bm PySem.F.plainAttrs_list PySem.F.slot_list_append PySem.F.type_list_append mt_append (pv 7) (pa_cons (pe_tup (pa_cons (pe_c C__law_some hr (by omega) rfl (pa_cons (pv 0) (pa_cons (pv 4) pa_nil))) (pa_cons (pe_c C__law_pick hr (by omega) rfl (pa_cons (pv 0) (pa_cons pe_int pa_nil))) (pa_cons (pv 9) pa_nil)))) pa_nil)))))))
  (pss_one (ps_ret (pe_callTy call_tuple_of rfl T.m_tuple (by decide +kernel) (pa_cons (pv 7) pa_nil)))))))))), ?_⟩
    obtain ⟨l, t0, m0, m1, q⟩ := h
    refine ⟨_, rfl, _, rfl, tp, most, rfl, l, t0, by omega, by omega, fun r1 H1 r10 r11 t1 mv1 => ?_⟩
    refine ⟨_, rfl, _, rfl, tp, most, rfl, l, t1, by omega, by omega, fun r2 H2 r20 r21 t2 mv2 => ⟨r1, r2, rfl, 1, _, rfl, rfl, ?_⟩⟩
    obtain ⟨mm, emm, mm1, mm2⟩ : ∃ mm : Nat, 1 + (if r2 > r1 then r2 else r1) = (mm : Int) ∧ 1 ≤ mm ∧ (mm : Int) ≤ most := by
      by_cases c : r2 > r1
      · rw [if_pos c]
        exact ⟨(1 + r2).toNat, by omega, by omega, by omega⟩
      · rw [if_neg c]
        exact ⟨(1 + r1).toNat, by omega, by omega, by omega⟩
    show gName 3 (V.int (1 + (if r2 > r1 then r2 else r1))) _ _ _
    rw [emm]
    -- names
    refine ⟨(by show 3 ≤ PySem.sizeLine; decide), fun n0 hn0 => ?_⟩
    have nn0 := t2.new hn0
    have g0 := same_new (o := .lst [V.str "p", V.str "q", V.str "pq"]) hn0
    refine ⟨_, rfl, tp, 3, rfl, l, t2.same g0, by decide, by decide, fun r3 H3 r30 r31 t3 mv3 => ⟨_, _, rfl, rfl, _, rfl, n0, _, rfl, SqL.of (mv3 _ _ upd_same nn0.1), fun n1 hn1 => ?_⟩⟩
    obtain ⟨k3, ek3, k31⟩ : ∃ k : Nat, 1 + r3 = (k : Int) ∧ 1 ≤ k := ⟨(1 + r3).toNat, by omega, by omega⟩
    rw [ek3, cutV_take]
    generalize hnl : [V.str "p", V.str "q", V.str "pq"].take k3 = nl at hn1 ⊢
    have nlok : ∀ x ∈ nl, ∃ z, x = .str z ∧ letB z 8 = true ∧ z.length ≤ 1000 := fun x hx => names_ok x (List.mem_of_mem_take (by rw [hnl]; exact hx))
    have nl1 : 1 ≤ nl.length := by
      rw [← hnl, List.length_take]
      show 1 ≤ min k3 3
      omega
    have nl3 : nl.length ≤ 3 := by
      rw [← hnl, List.length_take]
      show min k3 3 ≤ 3
      omega
    have nn1 := t3.new hn1
    have g1 := same_new (o := .lst nl) hn1
    have t4 := t3.same g1
    have m04 : Mov tp H (upd H3 n1 (.lst nl)) := (((mv1.trans mv2).trans (mov_same g0)).trans mv3).trans (mov_same g1)
    have h4 : upd H3 n1 (.lst nl) n1 = some (.lst nl) := upd_same
    generalize upd H3 n1 (.lst nl) = H4 at t4 m04 h4
    clear g1 g0
    -- line
    refine ⟨_, rfl, tp, 4, rfl, l, t4, by decide, by decide, fun lr lw H5 hl5 okl lenl t5 mv5 => ?_⟩
    have R5 : RowAt H5 lr lw := ⟨hl5, okl⟩
    have h5 := mv5 _ _ h4 nn1.1
    have m05 := m04.trans mv5
    -- other
    refine ⟨_, rfl, _, rfl, tp, 3, rfl, l, t5, by decide, by decide, fun r6 H6 r60 r61 t6 mv6 => ⟨_, _, rfl, rfl, _, rfl, ?_⟩⟩
    obtain ⟨k6, ek6⟩ : ∃ k : Nat, 1 + r6 = (k : Int) := ⟨(1 + r6).toNat, by omega⟩
    rw [ek6]
    have R6 := R5.mov t5 mv6
    have h6 := mv6 _ _ h5 nn1.1
    refine sl_take (k := k6) R6.1 fun pr7 H7 g7 h7 => ?_
    have t7 := t6.same g7
    refine ⟨_, rfl, tp, 2, rfl, l, t7, by decide, by decide, fun or8 ow8 H8 ho8 oko lno t8 mv8 => ?_⟩
    have R8 := (R6.mov t6 (mov_same g7)).mov t7 mv8
    have h78 := (t7.keep mv8).tups _ _ h7
    have h8 := mv8 _ _ (g7 _ _ h6) nn1.1
    rw [← List.map_take] at h78
    refine cat_tups h78 ho8 (by rw [List.length_map, List.length_map, List.length_take]; omega) fun orr H9 g9 h9 => ?_
    rw [← List.map_append] at h9
    have O9 : RowAt H9 orr (lw.take k6 ++ ow8) := ⟨h9, fun z hz => by
      rcases List.mem_append.mp hz with c | c
      · exact okl z (List.mem_of_mem_take c)
      · exact oko z c⟩
    have t9 := t8.same g9
    have R9 := R8.mov t8 (mov_same g9)
    have h9n := g9 _ _ h8
    have m09 := (((m05.trans mv6).trans (mov_same g7)).trans mv8).trans (mov_same g9)
    generalize lw.take k6 ++ ow8 = ow at O9
    clear h9 ho8 h78 h8 R8 h7 R6 R5 hl5 h5 h4
    -- found
    refine ⟨(by show 0 ≤ PySem.sizeLine; decide), fun D hD => ?_⟩
    have nD := t9.new hD
    have gD := same_new (o := .lst []) hD
    have nDn : n1 ≠ D := ne_of_none h9n hD
    refine ⟨_, rfl, (mm : Int), rfl, by omega, by omega, ?_⟩
    refine for_range (lo := 0) (n := ((mm : Nat) : Int).toNat) (fun i σ H' => ∃ zs bs v8 v9, σ = [some (.ref tp), some (.int most), some (.bl bg), some (.int (mm : Int)), some (.ref n1), some (.ref lr), some (.ref orr), some (.ref D), v8, v9] ∧ H' D = some (.lst zs) ∧ Paired (BoardAt H') zs bs ∧ (∀ b ∈ bs, drawn b) ∧ bs.length = i ∧ TapeAt H' tp l ∧ Mov tp H H' ∧ H' n1 = some (.lst nl) ∧ RowAt H' lr lw ∧ RowAt H' orr ow)
      ⟨[], [], _, _, rfl, upd_same, .nil, fun b hb => absurd hb (List.not_mem_nil), rfl, t9.same gD, m09.trans (mov_same gD), gD _ _ h9n, R9.mov t9 (mov_same gD), O9.mov t9 (mov_same gD)⟩ ?_ ?_
    · rintro i σ H' hi ⟨zs, bs, v8, v9, rfl, hz, pz, okz, lz, t', m', hn', R', O'⟩
      refine ⟨(by show 0 ≤ PySem.sizeLine; decide), fun e0 he0 => ?_⟩
      have ge := same_new (o := .tup []) he0
      refine ⟨fun σ H2 => ∃ r rw0, σ = [some (.ref tp), some (.int most), some (.bl bg), some (.int (mm : Int)), some (.ref n1), some (.ref lr), some (.ref orr), some (.ref D), some (.int (0 + (i : Int))), some (.ref r)] ∧ RowAt H2 r rw0 ∧ rw0.length ≤ 3 ∧ TapeAt H2 tp l ∧ Mov tp H' H2, ?_, ?_⟩
      · have E0' : RowAt (upd H' e0 (.tup [])) e0 [] := ⟨upd_same, fun z hz => absurd hz (List.not_mem_nil)⟩
        have te := t'.same ge
        refine ⟨_, rfl, _, rfl, ?_⟩
        refine ite2 (fun _ => ?_) (fun _ => ?_)
        · refine ⟨_, rfl, tp, 4, rfl, l, te, by decide, by decide, fun r1 H1 _ _ t1 mv1 => ⟨_, _, rfl, rfl, _, rfl, ?_⟩⟩
          refine ite2 (fun _ => ?_) (fun _ => ?_)
          · refine ⟨_, rfl, _, rfl, _, rfl, _, rfl, (by show 3 ≤ PySem.sizeLine; decide), fun ll hll => ?_⟩
            have nll := t1.new hll
            have gl := same_new (o := .lst [V.ref lr, V.ref lr, V.ref orr]) hll
            have ml := ((mov_same ge).trans mv1).trans (mov_same gl)
            have t2' := t1.same gl
            refine ⟨tp, ll, rfl, l, _, t2', upd_same, nll.1, by show 1 ≤ 3; decide, by show 3 ≤ 1000; decide, fun x H2 hx t2 mv2 => ?_⟩
            obtain ⟨xr, xw, rfl, X2⟩ : ∃ xr xw, x = .ref xr ∧ RowAt H2 xr xw := by
              simp only [List.mem_cons, List.not_mem_nil, or_false] at hx
              rcases hx with rfl | rfl | rfl
              · exact ⟨lr, lw, rfl, R'.mov t' (ml.trans mv2)⟩
              · exact ⟨lr, lw, rfl, R'.mov t' (ml.trans mv2)⟩
              · exact ⟨orr, ow, rfl, O'.mov t' (ml.trans mv2)⟩
            refine ⟨_, rfl, tp, 4, rfl, l, t2, by decide, by decide, fun r4 H4 r40 r41 t4 mv4 => ?_⟩
            obtain ⟨k4, rfl⟩ : ∃ k : Nat, r4 = (k : Int) := ⟨r4.toNat, by omega⟩
            have X4 := X2.mov t2 mv4
            refine ⟨_, rfl, sl_take (k := k4) X4.1 fun rr H5 g5 h5 => ?_⟩
            rw [← List.map_take] at h5
            exact ⟨rr, xw.take k4, rfl, ⟨h5, fun z hz => X4.2 z (List.mem_of_mem_take hz)⟩, by rw [List.length_take]; omega, t4.same g5, ((ml.trans mv2).trans mv4).trans (mov_same g5)⟩
          · exact ⟨e0, [], rfl, E0'.mov te mv1, Nat.zero_le _, t1, (mov_same ge).trans mv1⟩
        · exact iteF ⟨e0, [], rfl, E0', Nat.zero_le _, te, mov_same ge⟩
      · rintro σ H2 ⟨r, rw0, rfl, Rr, l3, t2, m2⟩
        have hz2 := m2 _ _ hz nD.1
        have hn2 := m2 _ _ hn' nn1.1
        refine ⟨_, rfl, .inl ⟨rfl, _, SqL.of hz2⟩, ?_⟩
        refine ⟨_, rfl, _, rfl, tp, n1, rfl, l, nl, t2, hn2, nn1.1, nl1, by omega, fun x H3 hx t3 mv3 => ?_⟩
        obtain ⟨z, rfl, z8, zl⟩ := nlok x hx
        refine ⟨_, rfl, tp, 2, rfl, l, t3, by decide, by decide, fun s H4 s0 s1 t4 mv4 => ?_⟩
        refine ⟨_, rfl, (by show 3 ≤ PySem.sizeLine; decide), fun t5 h5 => ?_⟩
        have g5 := same_new (o := .tup [V.str z, V.int s, V.ref r]) h5
        have m45 := (mv3.trans mv4).trans (mov_same g5)
        have m25 := m2.trans m45
        have hz5 := m45 _ _ hz2 nD.1
        have Rr5 := Rr.mov t2 m45
        have kd : ∀ e us, upd H4 t5 (.tup [V.str z, V.int s, V.ref r]) e = some (.tup us) → upd (upd H4 t5 (.tup [V.str z, V.int s, V.ref r])) D (.lst (zs ++ [.ref t5])) e = some (.tup us) := fun e us he => by
          rw [upd_ne (fun w => by rw [w, hz5] at he; cases he)]
          exact he
        have mm5 : Mov tp H (upd (upd H4 t5 (.tup [V.str z, V.int s, V.ref r])) D (.lst (zs ++ [.ref t5]))) := mov_mut (m'.trans m25) (by
          cases e : H D with
          | none => rfl
          | some o => rw [m09 _ _ e nD.1] at hD; cases hD)
        have t5' := (t4.same g5).upd (p := D) (o := .lst (zs ++ [.ref t5])) nD
        have lzz : zs.length = bs.length := paired_len pz
        refine ⟨D, zs, .ref t5, rfl, rfl, hz5, ?_, ?_⟩
        · have b1 : (1000 : Nat) < PySem.sizeLine := by decide
          omega
        · refine ⟨zs ++ [.ref t5], bs ++ [(z, s, rw0)], _, _, rfl, upd_same, paired_snoc (paired_mono (fun _ _ w => (w.mono (t'.keep m25).tups).mono kd) pz) ⟨t5, r, rfl, kd _ _ upd_same, kd _ _ Rr5.1⟩, ?_, by rw [List.length_append, lz]; rfl, t5', mm5, by rw [upd_ne nDn]; exact m45 _ _ hn2 nn1.1, ?_, ?_⟩
          · intro b hb
            rcases List.mem_append.mp hb with c | c
            · exact okz b c
            · rw [List.mem_singleton.mp c]
              exact ⟨drawn_ok z8 zl s0 s1 Rr.2 (by omega), l3⟩
          · exact ⟨kd _ _ (R'.mov t' m25).1, R'.2⟩
          · exact ⟨kd _ _ (O'.mov t' m25).1, O'.2⟩
    · rintro σ H' ⟨zs, bs, v8, v9, rfl, hz, pz, okz, lz, t', m', _⟩
      refine ⟨_, rfl, D, zs, rfl, .inl ⟨SqL.of hz, fun p hp => ?_⟩⟩
      have g := same_new (o := .tup zs) hp
      exact q p bs _ ⟨zs, upd_same, paired_mono (fun _ _ w => w.mono (same_tups g)) pz⟩ okz (by omega) (by omega) (t'.same g) (m'.trans (mov_same g))
end
end K11
namespace K11
open PySem L2 Nm
open C8 (Cal Mak pe_c pe_mk pe_gc)
open RZ (ItzT pi_zipA)
section
variable {P : Program} {w : World} {K : PySem.W.Frag} {mg : Str → Option Value} {base : Heap}
theorem c_BadHall {C fi : Addr} {fd : FuncData} (B : One K mg "BadHall" "BadHall.__init__" "at" s_BadHall___init__ C fi fd) : FnOk P w K mg base CX0 1 fi fd ["self", "at"] (sp_one K C "at") := by
  have sc := sc_BadHall___init__
  refine B.fn.ok (k := 0) sc (fun vs H Q E h => ?_) (fun cdv A outer s H vs Q E hr h => ?_)
  · obtain ⟨a, v, rfl, _⟩ := h
    rfl
  · obtain ⟨a, v, rfl, ha, q⟩ := h
    refine ⟨_, pss_one (ps_ost (pv 0) (pv 1)), ?_⟩
    exact ⟨_, rfl, _, rfl, a, C, rfl, B.ox, B.no, .inl ⟨ha, fun dx hd ne => q dx hd ne⟩⟩
end
end K11
namespace K11
open PySem L2 Nm
open C8 (Cal Mak pe_c pe_mk pe_gc)
open RZ (ItzT pi_zipA)
section
variable {P : Program} {w : World} {K : PySem.W.Frag} {mg : Str → Option Value} {base : Heap}
def sp_HallX (K : PySem.W.Frag) (CB C : Addr) : Sp := fun vs H Q E => ∃ (p dx : Addr) (x : V) (tp : Addr) (d : PyData), vs = [.ref p, x] ∧ H p = some (.ins C dx []) ∧ At tp H x d ∧
  (∀ i, dueD d = some i → ∀ dd H', H' dd = some (.xd [("at", .int i)]) → Same H H' → E (.ref CB) (some dd) H') ∧
  (dueD d = none → ∀ H' a, x = .ref a → BoardsAt H' a (bdsOf d) → (∀ b ∈ bdsOf d, okB b) → 1 ≤ (bdsOf d).length → (bdsOf d).length ≤ 12 → HallIs K H' p a (bdsOf d) → (∀ b o, H b = some o → b ≠ p → H' b = some o) → Q .non H')
theorem c_HallX {CB fb : Addr} {fdb : FuncData} (T : Txt K mg) (B_BadHall : One K mg "BadHall" "BadHall.__init__" "at" s_BadHall___init__ CB fb fdb) :
    ∃ C fi fd, Mk K C fi ∧ mg "Hall" = some (.ref C) ∧ Binds K fd ["self", "boards"] [] ∧ FnOk P w K mg base (L2.CX P w) 5 fi fd ["self", "boards"] (sp_HallX K CB C) := by
  obtain ⟨C, fi, fd, cl, mk, hm, F, nB, nN⟩ := T.cls_Hall
  have C_is_board := c_is_board (P := P) (w := w) (base := base) T
  have C_names_of := c_names_of (P := P) (w := w) (base := base) T
  have G_BadHall := c_BadHall (P := P) (w := w) (base := base) B_BadHall
  have b_BadHall := B_BadHall.fn.binds (ps := ["self", "at"]) fun _ _ _ _ _ _ us hl => match us, hl with | [_, _], _ => rfl
  have sc := sc_Hall___init__
  refine ⟨C, fi, fd, mk, hm, F.binds fun _ _ _ _ _ _ us hl => match us, hl with | [_, _], _ => rfl, F.okX (k := 4) sc (fun vs H Q E h => ?_) (fun cdv A outer s H vs Q E hr h => ?_)⟩
  · obtain ⟨p, dx, x, tp, d, rfl, _⟩ := h
    rfl
  · obtain ⟨p, dx, x, tp0, d, rfl, hp, hA, qe, q⟩ := h
    refine ⟨_, (pss_cons (ps_if (PW.pt (pw_or (pt_not (pt_val (pe_callB call_isi rfl T.m_isinstance (by decide +kernel) (pa_cons (pv 1) (pa_cons (pe_bltn (v := .ty "tuple") (u := .type "tuple") rfl T.m_tuple (by decide +kernel) rfl) pa_nil))))) (pw_or1 (pt_not (pt_chain op_le op_le pe_int (pe_callB call_len_seq rfl T.m_len (by decide +kernel) (pa_cons (pv 1) pa_nil)) (pe_gc rfl T.g_MOST_BOARDS)))))) (pss_one (ps_raise rfl (takes_of rfl rfl rfl rfl) (pmk_oex B_BadHall.ox B_BadHall.iC B_BadHall.tI G_BadHall (hr.mono (by omega)) b_BadHall .nil pass0 rfl B_BadHall.hm (pa_cons (pe_un un_neg pe_int) pa_nil)))) pss_nil)
  (pss_cons (ps_for (passes_of rfl) rfl (Nm.pi_enuT rfl T.m_enumerate (pa_cons (pv 1) pa_nil)) (pg_tup rfl (pgs_cons (pg_name (i := 2) sc.nd rfl (Or.inl rfl)) (pgs_cons (pg_name (i := 3) sc.nd rfl (Or.inl rfl)) pgs_nil))) (pss_one (ps_if (pt_not (pt_val (pe_c C_is_board hr (by omega) rfl (pa_cons (pv 3) pa_nil)))) (pss_one (ps_raise rfl (takes_of rfl rfl rfl rfl) (pmk_oex B_BadHall.ox B_BadHall.iC B_BadHall.tI G_BadHall (hr.mono (by omega)) b_BadHall .nil pass0 rfl B_BadHall.hm (pa_cons (pv 2) pa_nil)))) pss_nil)))
  (pss_cons (ps_fld (pv 0) (pv 1) rfl)
  (pss_one (ps_fld (pv 0) (pe_c C_names_of hr (by omega) rfl (pa_cons (pv 1) pa_nil)) rfl))))), ?_⟩
    -- the raising way
    have out : ∀ (i : Int) (H1 : Hp), dueD d = some i → Same H H1 → ∀ e, H1 e = none → sp_one K CB "at" [.ref e, .int i] (upd H1 e (exo e CB none)) (fun v H2 => v = .non ∧ ∃ (dd : Addr) (fs : List (Str × V)), H2 e = some (exo e CB (some dd)) ∧ H2 dd = some (exd dd fs) ∧ H1 dd = none ∧ E (.ref CB) (some dd) (upd (del H2 e) dd (.xd fs))) (fun _ _ _ => False) := fun i H1 hd g e he => by
      refine ⟨e, .int i, rfl, upd_same, fun dd hdd ne => ⟨rfl, dd, _, upd_same, by rw [upd_ne ne]; exact upd_same, by rw [upd_ne ne] at hdd; exact hdd, ?_⟩⟩
      exact qe i hd dd _ upd_same (g.trans (flown he hdd ne))
    rcases tupOr hA with ⟨a, xs, ds, rfl, rfl, ha, pr⟩ | ⟨nt', no⟩
    rotate_left
    · refine ⟨_, rfl, _, _, _, _, false, rfl, .ty _, hA.ty, nt' K, false, rfl, ?_⟩
      refine iteT ?_
      refine ite2 (fun _ => ?_) (fun z => absurd rfl z)
      exact ⟨1, rfl, (by show 1 ≤ 1000; decide), out (-1) H (dueD_no no) (Same.refl H)⟩
    have el : xs.length = ds.length := paired_len pr
    refine ⟨_, rfl, _, _, _, _, true, rfl, .ty _, hA.ty, kit_ty (a := "tuple") (by decide +kernel), true, rfl, ?_⟩
    refine iteF ⟨_, rfl, a, _, rfl, .inr (SqT.of ha), _, _, rfl, rfl, decide (1 ≤ (xs.length : Int)), rfl, ?_⟩
    by_cases c1 : 1 ≤ ds.length
    rotate_left
    · rw [decide_eq_false (show ¬ (1 ≤ (xs.length : Int)) by omega)]
      refine iteF ⟨false, rfl, ?_⟩
      refine ite2 (fun _ => ?_) (fun z => absurd rfl z)
      exact ⟨1, rfl, (by show 1 ≤ 1000; decide), out (-1) H (if_neg fun z => c1 z.1) (Same.refl H)⟩
    rw [decide_eq_true (show 1 ≤ (xs.length : Int) by omega)]
    refine iteT ⟨_, _, rfl, rfl, decide ((xs.length : Int) ≤ 12), rfl, ?_⟩
    by_cases c2 : ds.length ≤ 12
    rotate_left
    · rw [decide_eq_false (show ¬ ((xs.length : Int) ≤ 12) by omega)]
      refine ite2 (fun _ => ?_) (fun z => absurd rfl z)
      exact ⟨1, rfl, (by show 1 ≤ 1000; decide), out (-1) H (if_neg fun z => c2 z.2) (Same.refl H)⟩
    rw [decide_eq_true (show (xs.length : Int) ≤ 12 by omega)]
    refine iteF ?_
    have due : dueD (.tuple ds) = firstBad ds 0 := if_pos ⟨c1, c2⟩
    refine ⟨_, rfl, a, xs, rfl, SqT.of ha, ?_⟩
    refine for_it walk_itu (fun i σ H1 => ∃ v2 v3, σ = [some (.ref p), some (.ref a), v2, v3] ∧ Same H H1 ∧ ∀ j e, j < i → ds[j]? = some e → boardD e = true) ⟨none, none, rfl, Same.refl H, fun j e hj => absurd hj (Nat.not_lt_zero j)⟩ (fun i σ H1 _ ⟨_, _, _, g, _⟩ => SqT.of (g _ _ ha)) ?_ ?_
    · rintro i x σ H1 H2 hi ⟨v2, v3, rfl, g, good⟩ ⟨tp, x1, y, rfl, hn, rfl, e1, e2⟩
      obtain ⟨b, hb1, hb2⟩ := paired_at pr i y e2
      have g1 : Same H (upd H1 tp (.tup [x1, y])) := g.trans (same_new hn)
      refine ⟨tp, [x1, y], rfl, SqT.of upd_same, rfl, _, _, rfl, _, _, rfl, rfl, ?_⟩
      refine ⟨_, rfl, y, rfl, _, b, At.same g1 b _ hb2, fun H3 g3 => ⟨boardD b, rfl, ?_⟩⟩
      cases bad : boardD b with
      | true =>
        refine iteF ⟨_, _, rfl, g1.trans g3, fun j e hj he => ?_⟩
        by_cases c : j = i
        · subst c
          rw [hb1] at he
          cases he
          exact bad
        · exact good j e (by omega) he
      | false =>
        have ex : V.int (i : Int) = x1 := Option.some.inj e1
        subst ex
        have fb := firstBad_at ds 0 i b hb1 good bad
        rw [Nat.zero_add] at fb
        refine ite2 (fun _ => ?_) (fun z => absurd rfl z)
        exact ⟨_, rfl, (by show 1 ≤ 1000; decide), out (i : Int) H3 (due.trans fb) (g1.trans g3)⟩
    · rintro σ H1 ⟨v2, v3, rfl, g, good⟩
      have allB : ∀ e ∈ ds, boardD e = true := fun e he => by
        obtain ⟨j, hj⟩ := List.mem_iff_getElem?.mp he
        have lj := (List.getElem?_eq_some_iff.mp hj).1
        exact good j e (by omega) hj
      obtain ⟨pb, okb⟩ := boards_at pr allB
      have hb : BoardsAt H a (ds.map bdOf) := ⟨xs, ha, pb⟩
      have q := q (due.trans (firstBad_none ds 0 allB))
      obtain ⟨Ch, fh, fdh, clh, mkh, hmh, Fh, nBh, nNh⟩ := T.cls_Hall
      refine ⟨_, rfl, _, rfl, p, C, dx, [], rfl, g _ _ hp, cl, nB, (by show 0 < 1000; decide), ?_⟩
      have pa : a ≠ p := fun e => by
        rw [e, hp] at ha
        cases ha
      have other : ∀ {H5 : Hp} {o : HO}, Same H H5 → ∀ b u, H b = some u → b ≠ p → upd H5 p o b = some u := fun g5 b u hu hne => by
        rw [upd_ne hne]
        exact g5 b u hu
      have tups : ∀ b ys, H b = some (.tup ys) → b ≠ p := fun b ys hy e => by
        rw [e, hp] at hy
        cases hy
      refine ⟨_, rfl, a, ds.map bdOf, rfl, hb.mono (fun b ys hy => other g b _ hy (tups b ys hy)), by rw [List.length_map]; omega, fun H2 n ys g2 hn h2 nm => ?_⟩
      have hp2 : H2 p = some (.ins C dx (putF "boards" (.ref a) [])) := g2 _ _ upd_same
      refine ⟨_, rfl, p, C, dx, _, rfl, hp2, cl, nN, (by show 1 < 1000; decide), ?_⟩
      have pn : n ≠ p := fun e => by
        rw [e, hp2] at h2
        cases h2
      have keep : ∀ b o, H b = some o → b ≠ p → upd H2 p (.ins C dx (putF "names" (.ref n) (putF "boards" (.ref a) []))) b = some o := fun b o ho hne => by
        rw [upd_ne hne]
        exact g2 _ _ (other g b o ho hne)
      have hbz : BoardsAt (upd H2 p (.ins C dx (putF "names" (.ref n) (putF "boards" (.ref a) [])))) a (ds.map bdOf) := hb.mono fun b zs hz => keep b _ hz (tups b zs hz)
      refine q _ a rfl hbz okb (by show 1 ≤ (ds.map bdOf).length; rw [List.length_map]; exact c1) (by show (ds.map bdOf).length ≤ 12; rw [List.length_map]; exact c2) ⟨C, dx, _, n, ys, cl, nB, nN, upd_same, ?_, ?_, hbz, ?_, nm⟩ keep
      · rw [lookup_putF, if_neg nb_ne, lookup_putF, if_pos rfl]
      · rw [lookup_putF, if_pos rfl]
      · rw [upd_ne pn]
        exact h2
end
end K11
namespace K11
open PySem L2 Nm
open C8 (Cal Mak pe_c pe_mk pe_gc)
open RZ (ItzT pi_zipA)
section
variable {P : Program} {w : World} {K : PySem.W.Frag} {mg : Str → Option Value} {base : Heap}
def sp__law_int (K : PySem.W.Frag) : Sp := fun vs H Q _ => ∃ (x : V) (lo hi : Int), vs = [x, .int lo, .int hi] ∧ ∃ tp d, At tp H x d ∧ Q (.bl (intIn d lo hi)) H
theorem c__law_int (T : Txt K mg) : Cal P w K mg base 1 "_law_int" (sp__law_int K) [] := by
  have sc := sc__law_int
  refine cal_of T.d__law_int sc (fun _ _ _ _ _ _ us hl => match us, hl with | [_, _, _], _ => rfl) (fun vs H Q E h => ?_) (fun f cdv A outer s H vs Q E hr h => ?_)
  · obtain ⟨x, lo, hi, rfl, _⟩ := h
    rfl
  · obtain ⟨x, lo, hi, rfl, h⟩ := h
    refine ⟨_, (pss_one (ps_ret (pe_and (pe_callB call_isi rfl T.m_isinstance (by decide +kernel) (pa_cons (pv 0) (pa_cons (pe_bltn (v := .ty "int") (u := .type "int") rfl T.m_int (by decide +kernel) rfl) pa_nil))) (pe_and (pe_not (pe_callB call_isi rfl T.m_isinstance (by decide +kernel) (pa_cons (pv 0) (pa_cons (pe_bltn (v := .ty "bool") (u := .type "bool") rfl T.m_bool (by decide +kernel) rfl) pa_nil)))) (pe_and (pe_cmpR op_le (pv 1) (pv 0) (nomark _)) (pe_one (pe_cmpR op_le (pv 0) (pv 2) (nomark _)))))))), ?_⟩
    obtain ⟨tp0, d, hA, q⟩ := h
    obtain ⟨b, c, ⟨t, h1, h2⟩, ⟨u, h3, h4⟩, e⟩ := hA.tyi (K := K)
    have w := hA.within lo hi
    rw [← w] at q
    refine ⟨_, rfl, _, _, t, _, b, rfl, .ty _, h1, h2, b, rfl, ?_⟩
    cases b with
    | false =>
      refine iteF ?_
      have e' : isInt x = false := e.symm
      have z : Nm.within x lo hi = false := by
        cases x with
        | int n => cases e'
        | _ => rfl
      rw [z] at q
      exact q
    | true =>
      refine iteT ⟨_, rfl, _, _, u, _, c, rfl, .ty _, h3, h4, c, rfl, _, rfl, ?_⟩
      cases c with
      | true =>
        refine iteF ?_
        have e' : isInt x = false := e.symm
        have z : Nm.within x lo hi = false := by
          cases x with
          | int n => cases e'
          | _ => rfl
        rw [z] at q
        exact q
      | false =>
        have e' : isInt x = true := e.symm
        cases x with
        | int n =>
          have q : Q (.bl (decide (lo ≤ n) && decide (n ≤ hi))) H := q
          refine iteT ⟨_, rfl, _, rfl, lo, n, rfl, rfl, decide (lo ≤ n), rfl, ?_⟩
          refine ite2 (fun z => ?_) (fun z => ?_)
          · rw [z, Bool.true_and] at q
            exact ⟨_, rfl, _, rfl, n, hi, rfl, rfl, q⟩
          · rw [Bool.eq_false_iff.mpr z, Bool.false_and] at q
            exact q
        | _ => cases e'
end
end K11
namespace K11
open PySem L2 Nm
open C8 (Cal Mak pe_c pe_mk pe_gc)
open RZ (ItzT pi_zipA)
theorem alphabet (c : Nat) : decide (c ∈ ("abcdefghijklmnopqrstuvwxyz" : Str).cps.toList) = (decide (97 ≤ c) && decide (c ≤ 122)) := by
  have e : ("abcdefghijklmnopqrstuvwxyz" : Str).cps.toList = (List.range 26).map (97 + ·) := by decide +kernel
  rw [e]
  by_cases h : 97 ≤ c ∧ c ≤ 122
  · rw [decide_eq_true h.1, decide_eq_true h.2]
    exact decide_eq_true (List.mem_map.mpr ⟨c - 97, List.mem_range.mpr (by omega), by omega⟩)
  · rw [decide_eq_false fun m => h (by
      obtain ⟨i, hi, z⟩ := List.mem_map.mp m
      have := List.mem_range.mp hi
      have z' : 97 + i = c := z
      omega)]
    by_cases a : 97 ≤ c
    · rw [decide_eq_true a, decide_eq_false (fun b => h ⟨a, b⟩)]
      rfl
    · rw [decide_eq_false a]
      rfl
section
variable {P : Program} {w : World} {K : PySem.W.Frag} {mg : Str → Option Value} {base : Heap}
def sp__law_is_word (K : PySem.W.Frag) : Sp := fun vs H Q _ => ∃ (x : V) (most : Int), vs = [x, .int most] ∧ ∃ tp d, At tp H x d ∧ ∀ H', Same H H' → Q (.bl (letD d most)) H'
theorem c__law_is_word (T : Txt K mg) : Cal P w K mg base 1 "_law_is_word" (sp__law_is_word K) [] := by
  have sc := sc__law_is_word
  refine cal_of T.d__law_is_word sc (fun _ _ _ _ _ _ us hl => match us, hl with | [_, _], _ => rfl) (fun vs H Q E h => ?_) (fun f cdv A outer s H vs Q E hr h => ?_)
  · obtain ⟨x, most, rfl, _⟩ := h
    rfl
  · obtain ⟨x, most, rfl, h⟩ := h
    refine ⟨_, (pss_cons (ps_if (PW.pt (pw_or (pt_not (pt_val (pe_callB call_isi rfl T.m_isinstance (by decide +kernel) (pa_cons (pv 0) (pa_cons (pe_bltn (v := .ty "str") (u := .type "str") rfl T.m_str (by decide +kernel) rfl) pa_nil))))) (pw_or (pt_cmpR op_lt (pe_callB call_len_str rfl T.m_len (by decide +kernel) (pa_cons (pv 0) pa_nil)) pe_int (nomark _)) (pw_or1 (pt_cmpR op_gt (pe_callB call_len_str rfl T.m_len (by decide +kernel) (pa_cons (pv 0) pa_nil)) (pv 1) (nomark _)))))) (pss_one (ps_ret pe_bl)) pss_nil)
  (pss_one (ps_ret (pe_callB (cr_all rfl) rfl T.m_all (by decide +kernel) (pa_cons (pe_lc (own := [("sign", 2)]) (g := gName 2) rfl sc.nd (pi_str (pv 0)) (blkOk_by (own := [("sign", 2)]) (N := ["thing", "most", "sign"]) (sc := defScope s__law_is_word) (by decide +kernel)) (fun _ _ _ _ _ => (pg_name (i := 2) sc.nd rfl (Or.inl rfl))) (fun _ _ _ _ _ => pts_nil) (fun _ _ _ _ _ => (pe_cmpR op_in_sign (pv 2) pe_str rfl))) pa_nil))))), ?_⟩
    obtain ⟨tp0, d, hA, q⟩ := h
    rcases strOr hA with ⟨z, rfl, rfl, hz⟩ | ⟨ns, no⟩
    rotate_left
    · refine ⟨_, rfl, _, _, _, _, false, rfl, .ty _, hA.ty, ns K, false, rfl, ?_⟩
      refine iteT (iteT ?_)
      have q' := q H (Same.refl H)
      rw [no most] at q'
      exact q'
    have q : ∀ H', Same H H' → Q (.bl (letB z most)) H' := q
    have fit : z.length ≤ sizeLine := Nat.le_trans hz (by decide)
    refine ⟨_, rfl, _, _, _, _, true, rfl, .ty _, hA.ty, kit_ty (a := "str") (by decide +kernel), true, rfl, ?_⟩
    refine iteF ⟨_, rfl, z, rfl, fit, _, _, rfl, rfl, _, rfl, ?_⟩
    refine ite2 (fun c => iteT ?_) (fun c => ?_)
    · have e : letB z most = false := by
        have := of_decide_eq_true c
        unfold letB
        rw [decide_eq_false (show ¬ (1 ≤ (z.length : Int)) by omega), Bool.false_and, Bool.false_and]
      have q' := q H (Same.refl H)
      rw [e] at q'
      exact q'
    have c1 : 1 ≤ (z.length : Int) := by
      have := of_decide_eq_false (Bool.eq_false_iff.mpr c)
      omega
    refine ⟨_, rfl, z, rfl, fit, _, rfl, _, _, rfl, rfl, _, rfl, ?_⟩
    refine ite2 (fun c => ?_) (fun c => ?_)
    · have e : letB z most = false := by
        have := of_decide_eq_true c
        unfold letB
        rw [decide_eq_false (show ¬ ((z.length : Int) ≤ most) by omega), Bool.and_false, Bool.false_and]
      have q' := q H (Same.refl H)
      rw [e] at q'
      exact q'
    have c2 : (z.length : Int) ≤ most := by
      have := of_decide_eq_false (Bool.eq_false_iff.mpr c)
      omega
    refine ⟨_, rfl, z, rfl, fun D hD => ?_⟩
    refine lc_it walk_str (fun i H1 => H1 D = some (.lst ((z.cps.toList.take i).map fun c => V.bl (decide (97 ≤ c) && decide (c ≤ 122)))) ∧ Same H H1) ⟨upd_same, same_new hD⟩ (fun _ _ _ _ => trivial) ?_ ?_
    · rintro i x H0 H1 hi ⟨hl, g⟩ ⟨rfl, c, hc, rfl⟩
      refine ⟨rfl, ?_⟩
      have hc' : z.cps.toList[i]? = some c := by rw [Array.getElem?_toList]; exact hc
      refine ⟨_, rfl, c, _, rfl, rfl, _, hl, ?_, ?_, same_mut g hD⟩
      · rw [List.length_map, List.length_take]
        have a : z.cps.toList.length = z.length := by rw [Array.length_toList]; rfl
        have b : (1000 : Nat) < sizeLine := by decide
        omega
      · rw [upd_same, alphabet, take_one hc', List.map_append]
        rfl
    · rintro H1 ⟨hl, g⟩
      have hn : z.cps.toList.take z.cps.size = z.cps.toList := List.take_of_length_le (by rw [Array.length_toList]; exact Nat.le_refl _)
      rw [hn] at hl
      refine ⟨D, z.cps.toList.map (fun c => decide (97 ≤ c) && decide (c ≤ 122)), rfl, SqL.of (by rw [hl, List.map_map]; rfl), ?_⟩
      have e : letB z most = ((z.cps.toList.map (fun c => decide (97 ≤ c) && decide (c ≤ 122))).all id) := by
        unfold letB
        rw [decide_eq_true c1, decide_eq_true c2, List.all_map]
        rfl
      have q' := q H1 g
      rw [e] at q'
      exact q'
end
end K11
namespace K11
open PySem L2 Nm
open C8 (Cal Mak pe_c pe_mk pe_gc)
open RZ (ItzT pi_zipA)
section
variable {P : Program} {w : World} {K : PySem.W.Frag} {mg : Str → Option Value} {base : Heap}
def sp__law_is_row (K : PySem.W.Frag) : Sp := fun vs H Q _ => ∃ (x : V) (most : Int), vs = [x, .int most] ∧ most ≤ 1000 ∧ ∃ tp d, At tp H x d ∧ ∀ H', Same H H' → Q (.bl (rowsD d most)) H'
theorem c__law_is_row (T : Txt K mg) : Cal P w K mg base 2 "_law_is_row" (sp__law_is_row K) [] := by
  have C__law_is_word := c__law_is_word (P := P) (w := w) (base := base) T
  have sc := sc__law_is_row
  refine cal_of T.d__law_is_row sc (fun _ _ _ _ _ _ us hl => match us, hl with | [_, _], _ => rfl) (fun vs H Q E h => ?_) (fun f cdv A outer s H vs Q E hr h => ?_)
  · obtain ⟨x, most, rfl, _⟩ := h
    rfl
  · obtain ⟨x, most, rfl, h⟩ := h
    refine ⟨_, (pss_one (ps_ret (pe_and (pe_callB call_isi rfl T.m_isinstance (by decide +kernel) (pa_cons (pv 0) (pa_cons (pe_bltn (v := .ty "tuple") (u := .type "tuple") rfl T.m_tuple (by decide +kernel) rfl) pa_nil))) (pe_and (pe_cmpR op_le (pe_callB call_len_seq rfl T.m_len (by decide +kernel) (pa_cons (pv 0) pa_nil)) (pv 1) (nomark _)) (pe_one (pe_callB (cr_all rfl) rfl T.m_all (by decide +kernel) (pa_cons (pe_lc (own := [("word", 2)]) (g := gName 2) rfl sc.nd (pi_tup (pv 0)) (blkOk_by (own := [("word", 2)]) (N := ["thing", "most", "word"]) (sc := defScope s__law_is_row) (by decide +kernel)) (fun _ _ _ _ _ => (pg_name (i := 2) sc.nd rfl (Or.inl rfl))) (fun _ _ _ _ _ => pts_nil) (fun _ _ _ _ _ => (pe_c C__law_is_word hr (by omega) rfl (pa_cons (pv 2) (pa_cons pe_int pa_nil))))) pa_nil))))))), ?_⟩
    obtain ⟨m1, tp0, d, hA, q⟩ := h
    rcases tupOr hA with ⟨a, xs, ds, rfl, rfl, ha, pr⟩ | ⟨nt', no⟩
    · have el : xs.length = ds.length := paired_len pr
      refine ⟨_, rfl, _, _, _, _, true, rfl, .ty _, hA.ty, kit_ty (a := "tuple") (by decide +kernel), true, rfl, ?_⟩
      refine iteT ⟨_, rfl, a, _, rfl, .inr (SqT.of ha), _, rfl, _, _, rfl, rfl, decide ((xs.length : Int) ≤ most), rfl, ?_⟩
      by_cases c : (xs.length : Int) ≤ most
      · rw [decide_eq_true c]
        refine iteT ⟨_, rfl, a, rfl, ⟨_, SqT.of ha⟩, fun D hD => ?_⟩
        refine lc_tup (K := K) (a := a) (xs := xs) (fun i H1 => H1 D = some (.lst ((ds.take i).map fun e => V.bl (letD e 20))) ∧ Same H H1) ⟨upd_same, same_new hD⟩ (fun i H1 _ p => SqT.of (p.2 _ _ ha)) ?_ ?_
        · rintro i x H1 hx ⟨hl1, g⟩
          obtain ⟨e, he, hAe⟩ := paired_at pr i x hx
          refine ⟨rfl, ?_⟩
          refine ⟨_, rfl, x, 20, rfl, _, e, At.same g e _ hAe, fun H2 g2 => ?_⟩
          refine ⟨_, g2 _ _ hl1, ?_, ?_, ?_⟩
          · rw [List.length_map, List.length_take]
            have b : (1000 : Nat) < sizeLine := by decide
            omega
          · rw [upd_same, take_one he, List.map_append]
            rfl
          · exact same_mut (g.trans g2) hD
        · rintro H1 ⟨hl1, g⟩
          rw [el, List.take_length] at hl1
          refine ⟨D, ds.map (fun e => letD e 20), rfl, SqL.of (by rw [hl1, List.map_map]; rfl), ?_⟩
          have e : rowsD (.tuple ds) most = (ds.map (fun e => letD e 20)).all id := by
            show (decide ((ds.length : Int) ≤ most) && ds.all (fun e => letD e 20)) = _
            rw [decide_eq_true (by omega), Bool.true_and, List.all_map]
            rfl
          have q' := q H1 g
          rw [e] at q'
          exact q'
      · rw [decide_eq_false c]
        refine iteF ?_
        have e : rowsD (.tuple ds) most = false := by
          show (decide ((ds.length : Int) ≤ most) && ds.all (fun e => letD e 20)) = _
          rw [decide_eq_false (by omega), Bool.false_and]
        have q' := q H (Same.refl H)
        rw [e] at q'
        exact q'
    · refine ⟨_, rfl, _, _, _, _, false, rfl, .ty _, hA.ty, nt' K, false, rfl, ?_⟩
      refine iteF ?_
      have q' := q H (Same.refl H)
      rw [rowsD_no no] at q'
      exact q'
end
end K11
namespace K11
open PySem L2 Nm
open C8 (Cal Mak pe_c pe_mk pe_gc)
open RZ (ItzT pi_zipA)
def optV : Option Int → V
  | none => .non
  | some i => .int i
section
variable {P : Program} {w : World} {K : PySem.W.Frag} {mg : Str → Option Value} {base : Heap}
def sp__law_due (K : PySem.W.Frag) : Sp := fun vs H Q _ => ∃ (x : V), vs = [x] ∧ ∃ tp d, At tp H x d ∧ ∀ H', Same H H' → Q (optV (dueD d)) H'
theorem c__law_due (T : Txt K mg) : Cal P w K mg base 3 "_law_due" (sp__law_due K) [] := by
  have C__law_int := c__law_int (P := P) (w := w) (base := base) T
  have C__law_is_row := c__law_is_row (P := P) (w := w) (base := base) T
  have C__law_is_word := c__law_is_word (P := P) (w := w) (base := base) T
  have sc := sc__law_due
  refine cal_of T.d__law_due sc (fun _ _ _ _ _ _ us hl => match us, hl with | [_], _ => rfl) (fun vs H Q E h => ?_) (fun f cdv A outer s H vs Q E hr h => ?_)
  · obtain ⟨x, rfl, _⟩ := h
    rfl
  · obtain ⟨x, rfl, h⟩ := h
    refine ⟨_, (pss_cons (ps_if (PW.pt (pw_or (pt_not (pt_val (pe_callB call_isi rfl T.m_isinstance (by decide +kernel) (pa_cons (pv 0) (pa_cons (pe_bltn (v := .ty "tuple") (u := .type "tuple") rfl T.m_tuple (by decide +kernel) rfl) pa_nil))))) (pw_or (pt_cmpR op_lt (pe_callB call_len_seq rfl T.m_len (by decide +kernel) (pa_cons (pv 0) pa_nil)) pe_int (nomark _)) (pw_or1 (pt_cmpR op_gt (pe_callB call_len_seq rfl T.m_len (by decide +kernel) (pa_cons (pv 0) pa_nil)) pe_int (nomark _)))))) (pss_one (ps_ret (pe_un un_neg pe_int))) pss_nil)
  (pss_cons (ps_for PassesOwn.never rfl (pi_range1 rfl T.m_range (pa_cons (pe_callB call_len_seq rfl T.m_len (by decide +kernel) (pa_cons (pv 0) pa_nil)) pa_nil)) (pg_name (i := 1) sc.nd rfl (Or.inl rfl)) (pss_cons (ps_set (i := 2) sc.nd rfl (Or.inl rfl) (pe_ix ix_tup (pv 0) (pv 1) (fun _ _ => rfl)))
  (pss_cons (ps_if (PW.pt (pw_or (pt_not (pt_val (pe_callB call_isi rfl T.m_isinstance (by decide +kernel) (pa_cons (pv 2) (pa_cons (pe_bltn (v := .ty "tuple") (u := .type "tuple") rfl T.m_tuple (by decide +kernel) rfl) pa_nil))))) (pw_or (pt_cmpR op_ne (pe_callB call_len_seq rfl T.m_len (by decide +kernel) (pa_cons (pv 2) pa_nil)) pe_int (nomark _)) (pw_or1 (pt_not (pt_val (pe_c C__law_is_word hr (by omega) rfl (pa_cons (pe_ix ix_tup (pv 2) pe_int (fun _ _ => rfl)) (pa_cons pe_int pa_nil))))))))) (pss_one (ps_ret (pv 1))) pss_nil)
  (pss_one (ps_if (PW.pt (pw_or (pt_not (pt_val (pe_c C__law_int hr (by omega) rfl (pa_cons (pe_ix ix_tup (pv 2) pe_int (fun _ _ => rfl)) (pa_cons pe_int (pa_cons pe_int pa_nil)))))) (pw_or1 (pt_not (pt_val (pe_c C__law_is_row hr (by omega) rfl (pa_cons (pe_ix ix_tup (pv 2) pe_int (fun _ _ => rfl)) (pa_cons pe_int pa_nil)))))))) (pss_one (ps_ret (pv 1))) pss_nil)))))
  (pss_one (ps_ret pe_non)))), ?_⟩
    obtain ⟨tp0, d, hA, q⟩ := h
    have q0 := q H (Same.refl H)
    rcases tupOr hA with ⟨a, xs, ds, rfl, rfl, ha, pr⟩ | ⟨nt', no⟩
    rotate_left
    · refine ⟨_, rfl, _, _, _, _, false, rfl, .ty _, hA.ty, nt' K, false, rfl, ?_⟩
      rw [dueD_no no] at q0
      exact iteT (iteT ⟨1, rfl, q0⟩)
    have el : xs.length = ds.length := paired_len pr
    refine ⟨_, rfl, _, _, _, _, true, rfl, .ty _, hA.ty, kit_ty (a := "tuple") (by decide +kernel), true, rfl, ?_⟩
    refine iteF ⟨_, rfl, a, _, rfl, .inr (SqT.of ha), _, _, rfl, rfl, _, rfl, ?_⟩
    refine ite2 (fun z => iteT ?_) (fun z => ?_)
    · have c := of_decide_eq_true z
      rw [show dueD (.tuple ds) = some (-1) from if_neg fun w => by omega] at q0
      exact ⟨1, rfl, q0⟩
    have c1 := of_decide_eq_false (Bool.eq_false_iff.mpr z)
    refine ⟨_, rfl, a, _, rfl, .inr (SqT.of ha), _, _, rfl, rfl, _, rfl, ?_⟩
    refine ite2 (fun z => ?_) (fun z => ?_)
    · have c := of_decide_eq_true z
      rw [show dueD (.tuple ds) = some (-1) from if_neg fun w => by omega] at q0
      exact ⟨1, rfl, q0⟩
    have c2 := of_decide_eq_false (Bool.eq_false_iff.mpr z)
    have due : dueD (.tuple ds) = firstBad ds 0 := if_pos ⟨by omega, by omega⟩
    rw [due] at q
    refine ⟨_, rfl, a, _, rfl, .inr (SqT.of ha), _, rfl, by omega, by omega, ?_⟩
    refine for_range (lo := 0) (n := ((xs.length : Nat) : Int).toNat) (fun i σ H1 => ∃ v1 v2, σ = [some (.ref a), v1, v2] ∧ Same H H1 ∧ ∀ j e, j < i → ds[j]? = some e → boardD e = true) ⟨_, _, rfl, Same.refl H, fun j e hj => absurd hj (Nat.not_lt_zero j)⟩ ?_ ?_
    · rintro i σ H1 hi ⟨v1, v2, rfl, g, good⟩
      obtain ⟨y, hy⟩ : ∃ y, xs[i]? = some y := ⟨xs[i]'(by omega), List.getElem?_eq_getElem (by omega)⟩
      obtain ⟨e, he, hAe⟩ := paired_at pr i y hy
      have hE := At.same g e _ hAe
      -- it is none
      have bad : boardD e = false → ∀ H', Same H H' → Q (.int (0 + (i : Int))) H' := fun b H' g' => by
        have fb := firstBad_at ds 0 i e he good b
        have q1 := q H' g'
        rw [fb] at q1
        exact q1
      have fine : boardD e = true → ∀ H', Same H H' → ∃ v1 v2, [some (V.ref a), some (V.int (0 + (i : Int))), some y] = [some (V.ref a), v1, v2] ∧ Same H H' ∧ ∀ j e, j < i + 1 → ds[j]? = some e → boardD e = true := fun b H' g' => by
        refine ⟨_, _, rfl, g', fun j f hj hf => ?_⟩
        by_cases c : j = i
        · subst c
          rw [he] at hf
          cases hf
          exact b
        · exact good j f (by omega) hf
      refine ⟨_, rfl, _, rfl, a, _, _, y, rfl, rfl, SqT.of (g _ _ ha), by rw [Int.zero_add]; exact atI_nat hy, ?_⟩
      rcases tupOr hE with ⟨b, zs, es, rfl, rfl, hb, pz⟩ | ⟨nt', no⟩
      rotate_left
      · refine ⟨_, rfl, _, _, _, _, false, rfl, .ty _, hE.ty, nt' K, false, rfl, ?_⟩
        exact iteT (iteT ⟨_, rfl, bad (boardD_no no) H1 g⟩)
      have el2 : zs.length = es.length := paired_len pz
      refine ⟨_, rfl, _, _, _, _, true, rfl, .ty _, hE.ty, kit_ty (a := "tuple") (by decide +kernel), true, rfl, ?_⟩
      refine iteF ⟨_, rfl, b, _, rfl, .inr (SqT.of hb), rfl, _, rfl, ?_⟩
      rw [decI]
      by_cases c3 : es.length = 3
      rotate_left
      · rw [decide_eq_false (show ¬ ((zs.length : Int) = 3) by omega)]
        exact iteT (iteT ⟨_, rfl, bad (boardD_len c3) H1 g⟩)
      rw [decide_eq_true (show ((zs.length : Int) = 3) by omega)]
      obtain ⟨d1, d2, d3, rfl⟩ : ∃ d1 d2 d3, es = [d1, d2, d3] := by
        match es, c3 with
        | [d1, d2, d3], _ => exact ⟨d1, d2, d3, rfl⟩
      cases pz with
      | @cons x1 _ _ _ h1 t1 =>
      cases t1 with
      | @cons x2 _ _ _ h2 t2 =>
      cases t2 with
      | @cons x3 _ _ _ h3 t3 =>
      cases t3 with
      | nil =>
      have eb : boardD (.tuple [d1, d2, d3]) = (letD d1 8 && (intIn d2 0 1 && rowsD d3 20)) := rfl
      refine iteF ⟨_, rfl, b, _, 0, x1, rfl, rfl, SqT.of hb, rfl, x1, 8, rfl, _, d1, h1, fun H2 g2 => ⟨_, rfl, ?_⟩⟩
      have g02 := g.trans g2
      cases e1 : letD d1 8 with
      | false =>
        rw [e1, Bool.false_and] at eb
        exact iteT ⟨_, rfl, bad eb H2 g02⟩
      | true =>
        rw [e1, Bool.true_and] at eb
        refine iteF ⟨_, rfl, b, _, 1, x2, rfl, rfl, SqT.of (g2 _ _ hb), rfl, x2, 0, 1, rfl, _, d2, At.same g2 d2 _ h2, _, rfl, ?_⟩
        cases e2 : intIn d2 0 1 with
        | false =>
          rw [e2, Bool.false_and] at eb
          exact iteT (iteT ⟨_, rfl, bad eb H2 g02⟩)
        | true =>
          rw [e2, Bool.true_and] at eb
          refine iteF ⟨_, rfl, b, _, 2, x3, rfl, rfl, SqT.of (g2 _ _ hb), rfl, x3, 20, rfl, by decide, _, d3, At.same g2 d3 _ h3, fun H3 g3 => ⟨_, rfl, ?_⟩⟩
          have g03 := g02.trans g3
          cases e3 : rowsD d3 20 with
          | false =>
            rw [e3] at eb
            exact iteT ⟨_, rfl, bad eb H3 g03⟩
          | true =>
            rw [e3] at eb
            exact iteF (fine eb H3 g03)
    · rintro σ H1 ⟨v1, v2, rfl, g, good⟩
      have allB : ∀ e ∈ ds, boardD e = true := fun e he => by
        obtain ⟨j, hj⟩ := List.mem_iff_getElem?.mp he
        have lj := (List.getElem?_eq_some_iff.mp hj).1
        exact good j e (by omega) hj
      have q1 := q H1 g
      rw [firstBad_none ds 0 allB] at q1
      exact q1
end
end K11
namespace K11
open PySem L2 Nm
open C8 (Cal Mak pe_c pe_mk pe_gc)
open RZ (ItzT pi_zipA)
theorem sl_from {K : PySem.W.Frag} {H : Hp} {a : Addr} {xs : List V} {k : Nat} {Q : VK} (h : H a = some (.tup xs)) (hk : k ≤ xs.length) (q : ∀ r H', Same H H' → H' r = some (.tup (xs.drop k)) → Q (.ref r) H') : rSlA K (.ref a) (some (k : Int)) none H Q := by
  refine ⟨a, xs, rfl, SqT.of h, fun z => ?_, fun z p hp => ?_⟩
  · have e := z.1
    rw [HT.sIx_nat] at e
    have k0 : k = 0 ∨ xs = [] := by
      rcases Nat.eq_zero_or_pos k with e0 | e0
      · exact .inl e0
      · exact .inr (List.eq_nil_of_length_eq_zero (by omega))
    refine q a H (Same.refl H) ?_
    rcases k0 with rfl | rfl
    · exact h
    · rw [List.drop_nil]
      exact h
  · refine q p _ (same_new hp) ?_
    rw [upd_same]
    unfold cutV
    rw [HT.sIx_nat, HT.sIx_none, Nat.min_eq_left hk, List.take_of_length_le (by rw [List.length_drop]; exact Nat.le_refl _)]
theorem rep_flat {α : Type} (x : α) : ∀ n : Nat, (List.replicate n [x]).flatten = List.replicate n x
  | 0 => rfl
  | n + 1 => by
    rw [List.replicate_succ, List.flatten_cons, rep_flat x n]
    rfl
theorem paired_repl {α β : Type} {R : α → β → Prop} {x : α} {y : β} (h : R x y) : ∀ n : Nat, Paired R (List.replicate n x) (List.replicate n y)
  | 0 => .nil
  | n + 1 => .cons h (paired_repl h n)
/-- every one of some values is a thing -/
theorem at_mem {tp : Addr} {H : Hp} {xs : List V} {ds : List PyData} (p : Paired (At tp H) xs ds) {x : V} (h : x ∈ xs) : ∃ d, At tp H x d := by
  obtain ⟨i, hi⟩ := List.mem_iff_getElem?.mp h
  obtain ⟨d, _, hd⟩ := paired_at p i x hi
  exact ⟨d, hd⟩
theorem paired_drop {α β : Type} {R : α → β → Prop} : ∀ {xs : List α} {ys : List β}, Paired R xs ys → ∀ n, Paired R (xs.drop n) (ys.drop n)
  | _, _, h, 0 => h
  | _, _, .nil, n + 1 => by
    rw [List.drop_nil, List.drop_nil]
    exact .nil
  | _, _, .cons _ t, n + 1 => paired_drop t n
section
variable {P : Program} {w : World} {K : PySem.W.Frag} {mg : Str → Option Value} {base : Heap}
def sp__law_bent (K : PySem.W.Frag) : Sp := fun vs H Q _ => ∃ (tp a : Addr), vs = [.ref tp, .ref a] ∧ ∃ l xs ds, TapeAt H tp l ∧ H a = some (.tup xs) ∧ Paired (At tp H) xs ds ∧ 1 ≤ xs.length ∧ xs.length ≤ 100 ∧
  ∀ (r : Addr) (ys : List V) (es : List PyData) (H' : Hp), H' r = some (.tup ys) → Paired (At tp H') ys es → 1 ≤ ys.length → ys.length ≤ xs.length + 14 → TapeAt H' tp l → Mov tp H H' → Q (.ref r) H'
theorem c__law_bent (T : Txt K mg) : Cal P w K mg base 4 "_law_bent" (sp__law_bent K) [] := by
  have C__law_pick := c__law_pick (P := P) (w := w) (base := base) T
  have C__law_some := c__law_some (P := P) (w := w) (base := base) T
  have sc := sc__law_bent
  refine cal_of T.d__law_bent sc (fun _ _ _ _ _ _ us hl => match us, hl with | [_, _], _ => rfl) (fun vs H Q E h => ?_) (fun f cdv A outer s H vs Q E hr h => ?_)
  · obtain ⟨tp, a, rfl, _⟩ := h
    rfl
  · obtain ⟨tp, a, rfl, h⟩ := h
    refine ⟨_, (pss_cons (ps_set (i := 2) sc.nd rfl (Or.inl rfl) (pe_c C__law_pick hr (by omega) rfl (pa_cons (pv 0) (pa_cons (pe_callB call_len_seq rfl T.m_len (by decide +kernel) (pa_cons (pv 1) pa_nil)) pa_nil))))
  (pss_cons (ps_if (PW.pt (pw_or (pt_not (pt_val (pe_callB call_isi rfl T.m_isinstance (by decide +kernel) (pa_cons (pe_ix ix_tup (pv 1) (pv 2) (fun _ _ => rfl)) (pa_cons (pe_bltn (v := .ty "tuple") (u := .type "tuple") rfl T.m_tuple (by decide +kernel) rfl) pa_nil))))) (pw_or1 (pt_cmpR op_ne (pe_callB call_len_seq rfl T.m_len (by decide +kernel) (pa_cons (pe_ix ix_tup (pv 1) (pv 2) (fun _ _ => rfl)) pa_nil)) pe_int (nomark _))))) (pss_one (ps_ret (pv 1))) pss_nil)
  (pss_cons (ps_asg (pe_ix ix_tup (pv 1) (pv 2) (fun _ _ => rfl)) (pg_tup rfl (pgs_cons (pg_name (i := 3) sc.nd rfl (Or.inl rfl)) (pgs_cons (pg_name (i := 4) sc.nd rfl (Or.inl rfl)) (pgs_cons (pg_name (i := 5) sc.nd rfl (Or.inl rfl)) pgs_nil)))))
  (pss_cons (ps_set (i := 6) sc.nd rfl (Or.inl rfl) (pe_c C__law_pick hr (by omega) rfl (pa_cons (pv 0) (pa_cons pe_int pa_nil))))
  (pss_cons (ps_set (i := 7) sc.nd rfl (Or.inl rfl) (pe_ix ix_tup (pv 1) (pv 2) (fun _ _ => rfl)))
  (C8.pss_cut (ps_if (pt_cmpR op_eq (pv 6) pe_int (nomark _)) (pss_one (ps_set (i := 7) sc.nd rfl (Or.inl rfl) (pe_tup (pa_cons (pe_ix ix_list (pe_lst (pa_cons pe_str (pa_cons pe_str (pa_cons pe_str (pa_cons pe_str (pa_cons pe_non (pa_cons pe_int (pa_cons pe_str (pa_cons (pe_tup (pa_cons pe_str pa_nil)) pa_nil))))))))) (pe_c C__law_pick hr (by omega) rfl (pa_cons (pv 0) (pa_cons pe_int pa_nil))) (fun _ _ => rfl)) (pa_cons (pv 4) (pa_cons (pv 5) pa_nil)))))) pss_nil)
  (C8.pss_cut (ps_if (pt_cmpR op_eq (pv 6) pe_int (nomark _)) (pss_one (ps_set (i := 7) sc.nd rfl (Or.inl rfl) (pe_tup (pa_cons (pv 3) (pa_cons (pe_ix ix_list (pe_lst (pa_cons pe_int (pa_cons (pe_un un_neg pe_int) (pa_cons pe_bl (pa_cons pe_bl (pa_cons pe_non (pa_cons pe_str (pa_cons (pe_tup (pa_cons pe_int pa_nil)) (pa_cons pe_int pa_nil))))))))) (pe_c C__law_pick hr (by omega) rfl (pa_cons (pv 0) (pa_cons pe_int pa_nil))) (fun _ _ => rfl)) (pa_cons (pv 5) pa_nil)))))) pss_nil)
  (C8.pss_cut (ps_if (pt_cmpR op_eq (pv 6) pe_int (nomark _)) (pss_cons (ps_set (i := 8) sc.nd rfl (Or.inl rfl) (pe_lst (pa_cons (pe_lst (pa_cons pe_str pa_nil)) (pa_cons (pe_op (OpR.or Nm.op_rep0 (OpR.or Nm.op_rep1 op_repT)) (pe_tup (pa_cons pe_str pa_nil)) pe_int) (pa_cons (pe_op (OpR.or Nm.op_rep0 (OpR.or Nm.op_rep1 op_repT)) (pe_tup (pa_cons pe_str pa_nil)) pe_int) (pa_cons (pe_tup (pa_cons pe_str pa_nil)) (pa_cons (pe_tup (pa_cons pe_non pa_nil)) (pa_cons pe_str (pa_cons pe_non (pa_cons (pe_tup (pa_cons (pe_op Nm.op_mulS pe_str pe_int) pa_nil)) (pa_cons (pe_tup (pa_cons (pe_op Nm.op_mulS pe_str pe_int) pa_nil)) (pa_cons (pe_tup (pa_cons (pe_tup (pa_cons pe_str pa_nil)) pa_nil)) pa_nil))))))))))))
  (pss_one (ps_set (i := 7) sc.nd rfl (Or.inl rfl) (pe_tup (pa_cons (pv 3) (pa_cons (pv 4) (pa_cons (pe_c C__law_some hr (by omega) rfl (pa_cons (pv 0) (pa_cons (pv 8) pa_nil))) pa_nil))))))) pss_nil)
  (C8.pss_cut (ps_if (pt_cmpR op_eq (pv 6) pe_int (nomark _)) (pss_one (ps_set (i := 7) sc.nd rfl (Or.inl rfl) (pe_ix ix_list (pe_lst (pa_cons pe_non (pa_cons (pe_tup (pa_cons (pv 3) (pa_cons (pv 4) pa_nil))) (pa_cons (pe_tup (pa_cons (pv 3) (pa_cons (pv 4) (pa_cons (pv 5) (pa_cons pe_int pa_nil))))) (pa_cons (pe_lst (pa_cons (pv 3) (pa_cons (pv 4) (pa_cons (pv 5) pa_nil)))) (pa_cons (pe_tup (pa_cons (pv 4) (pa_cons (pv 3) (pa_cons (pv 5) pa_nil)))) (pa_cons pe_str (pa_cons pe_dnewK pa_nil)))))))) (pe_c C__law_pick hr (by omega) rfl (pa_cons (pv 0) (pa_cons pe_int pa_nil))) (fun _ _ => rfl)))) pss_nil)
  (pss_cons (ps_if (pt_cmpR op_eq (pv 6) pe_int (nomark _)) (pss_one (ps_ret (pe_op op_catA (pv 1) (pe_op (OpR.or Nm.op_rep0 (OpR.or Nm.op_rep1 op_repT)) (pe_tup (pa_cons (pv 7) pa_nil)) (pe_c C__law_pick hr (by omega) rfl (pa_cons (pv 0) (pa_cons pe_int pa_nil))))))) pss_nil)
  (pss_one (ps_ret (pe_op op_catA (pe_op op_catA (pe_slice sl_tupA (pv 1) po_none (po_some (pv 2))) (pe_tup (pa_cons (pv 7) pa_nil))) (pe_slice sl_tupA (pv 1) (po_some (pe_op op_add (pv 2) pe_int)) po_none)))))))))))))), ?_⟩
    obtain ⟨l, xs, ds, t0, ha, pr, l1, l100, q⟩ := h
    refine ⟨_, rfl, _, rfl, a, _, rfl, .inr (SqT.of ha), tp, _, rfl, l, t0, by omega, by omega, fun r1 H1 r10 r11 t1 mv1 => ?_⟩
    obtain ⟨k, rfl⟩ : ∃ k : Nat, r1 = (k : Int) := ⟨r1.toNat, by omega⟩
    have ha1 := (t0.keep mv1).tups _ _ ha
    have pr1 := paired_mono (fun _ _ z => At.tape z t0 mv1) pr
    obtain ⟨x, hx⟩ : ∃ x, xs[k]? = some x := ⟨xs[k]'(by omega), List.getElem?_eq_getElem (by omega)⟩
    obtain ⟨d, hd, hA⟩ := paired_at pr1 k x hx
    refine ⟨_, rfl, _, rfl, a, _, _, x, rfl, rfl, SqT.of ha1, atI_nat hx, ?_⟩
    rcases tupOr hA with ⟨b, zs, es, rfl, rfl, hb, pz⟩ | ⟨nt', no⟩
    rotate_left
    · refine ⟨_, _, _, _, false, rfl, .ty _, hA.ty, nt' K, false, rfl, ?_⟩
      refine iteT (iteT ?_)
      exact ⟨_, rfl, q a xs ds H1 ha1 pr1 l1 (by omega) t1 mv1⟩
    refine ⟨_, _, _, _, true, rfl, .ty _, hA.ty, kit_ty (a := "tuple") (by decide +kernel), true, rfl, ?_⟩
    refine iteF ⟨_, rfl, _, rfl, a, _, _, _, rfl, rfl, SqT.of ha1, atI_nat hx, b, _, rfl, .inr (SqT.of hb), rfl, _, rfl, ?_⟩
    rw [decI]
    by_cases c3 : zs.length = 3
    rotate_left
    · rw [decide_eq_false (show ¬ ((zs.length : Int) = 3) by omega)]
      refine iteT ?_
      exact ⟨_, rfl, q a xs ds H1 ha1 pr1 l1 (by omega) t1 mv1⟩
    rw [decide_eq_true (show ((zs.length : Int) = 3) by omega)]
    obtain ⟨x1, x2, x3, rfl⟩ : ∃ d1 d2 d3, zs = [d1, d2, d3] := by
      match zs, c3 with
      | [d1, d2, d3], _ => exact ⟨d1, d2, d3, rfl⟩
    cases pz with
    | @cons _ d1 _ _ h1 t1' =>
    cases t1' with
    | @cons _ d2 _ _ h2 t2' =>
    cases t2' with
    | @cons _ d3 _ _ h3 t3' =>
    cases t3' with
    | nil =>
    refine iteF ⟨_, rfl, _, rfl, a, _, _, _, rfl, rfl, SqT.of ha1, atI_nat hx, b, _, rfl, SqT.of hb, rfl, _, _, rfl, _, _, rfl, _, _, rfl, rfl, ?_⟩
    refine ⟨_, rfl, tp, 6, rfl, l, t1, by decide, by decide, fun r2 H2 r20 r21 t2 mv2 => ?_⟩
    have ha2 := (t1.keep mv2).tups _ _ ha1
    refine ⟨_, rfl, _, rfl, a, _, _, _, rfl, rfl, SqT.of ha2, atI_nat hx, ?_⟩
    have A0 := At.tape hA t1 mv2
    have X1 := At.tape h1 t1 mv2
    have X2 := At.tape h2 t1 mv2
    have X3 := At.tape h3 t1 mv2
    have pr2 := paired_mono (fun _ _ z => At.tape z t1 mv2) pr1
    have m02 := mv1.trans mv2
    have lay : ∀ {H' : Hp} {o : HO} {p : Addr}, H' p = none → TapeAt H' tp l → Mov tp H2 H' → TapeAt (upd H' p o) tp l ∧ Mov tp H2 (upd H' p o) := fun hp t m => ⟨t.same (same_new hp), m.trans (mov_same (same_new hp))⟩
    have pick : ∀ {H' : Hp} {ws : List V} {es : List PyData} {r : Int}, Paired (At tp H') ws es → 0 ≤ r → r < (ws.length : Int) → ∃ v e, atI ws r = some v ∧ At tp H' v e := fun p r0 r1 => by
      obtain ⟨v, hv, mv⟩ := at_ok r0 r1
      obtain ⟨e, he⟩ := at_mem p mv
      exact ⟨v, e, hv, he⟩
    -- kind 0
    refine ⟨fun σ H' => ∃ od v8, σ = [some (.ref tp), some (.ref a), some (.int (k : Int)), some x1, some x2, some x3, some (.int r2), some od, v8] ∧ TapeAt H' tp l ∧ Mov tp H2 H' ∧ ∃ dd, At tp H' od dd, ?_, ?_⟩
    · refine ⟨_, rfl, rfl, _, rfl, ?_⟩
      refine ite2 (fun _ => ?_) (fun _ => ⟨.ref b, none, rfl, t2, Mov.refl tp H2, _, A0⟩)
      refine ⟨(by show 1 ≤ PySem.sizeLine; decide), fun q1 hq1 => ⟨(by show 8 ≤ PySem.sizeLine; decide), fun p hp => ?_⟩⟩
      obtain ⟨ta, ma⟩ := lay (o := .tup [V.str "a"]) hq1 t2 (Mov.refl tp H2)
      obtain ⟨tb, mb⟩ := lay (o := .lst [V.str "", V.str "abcdefghi", V.str "abcdefgh", V.str "A", V.non, V.int 5, V.str "a b", V.ref q1]) hp ta ma
      refine ⟨_, rfl, tp, 8, rfl, l, tb, by decide, by decide, fun r H' r0 r1' t' m' => ?_⟩
      have np := ta.new hp
      have hq1' : H' q1 = some (.tup [V.str "a"]) := (tb.keep m').tups _ _ (same_new hp _ _ upd_same)
      obtain ⟨v, e, hv, he⟩ := pick (H' := H') (ws := [V.str "", V.str "abcdefghi", V.str "abcdefgh", V.str "A", V.non, V.int 5, V.str "a b", V.ref q1]) (.cons (.str _ (by decide +kernel)) (.cons (.str _ (by decide +kernel)) (.cons (.str _ (by decide +kernel)) (.cons (.str _ (by decide +kernel)) (.cons .non (.cons (.int 5) (.cons (.str _ (by decide +kernel)) (.cons (.tup hq1' (.cons (.str _ (by decide +kernel)) .nil)) .nil)))))))) r0 r1'
      refine ⟨p, _, r, v, rfl, rfl, SqL.of (m' _ _ upd_same np.1), hv, _, rfl, _, rfl, (by show 3 ≤ PySem.sizeLine; decide), fun t ht => ?_⟩
      have g := same_new (o := .tup [v, x2, x3]) ht
      have mm := mb.trans m'
      exact ⟨.ref t, none, rfl, t'.same g, mm.trans (mov_same g), _, .tup upd_same (.cons (At.same g _ _ he) (.cons (At.same g _ _ (At.tape X2 t2 mm)) (.cons (At.same g _ _ (At.tape X3 t2 mm)) .nil)))⟩
    rintro σ H3 ⟨od, v8, rfl, t3, m3, dd, Ad⟩
    -- kind 1
    refine ⟨fun σ H' => ∃ od v8, σ = [some (.ref tp), some (.ref a), some (.int (k : Int)), some x1, some x2, some x3, some (.int r2), some od, v8] ∧ TapeAt H' tp l ∧ Mov tp H2 H' ∧ ∃ dd, At tp H' od dd, ?_, ?_⟩
    · refine ⟨_, rfl, rfl, _, rfl, ?_⟩
      refine ite2 (fun _ => ?_) (fun _ => ⟨od, v8, rfl, t3, m3, dd, Ad⟩)
      refine ⟨_, rfl, 1, rfl, (by show 1 ≤ PySem.sizeLine; decide), fun q1 hq1 => ⟨(by show 8 ≤ PySem.sizeLine; decide), fun p hp => ?_⟩⟩
      obtain ⟨ta, ma⟩ := lay (o := .tup [V.int 0]) hq1 t3 m3
      obtain ⟨tb, mb⟩ := lay (o := .lst [V.int 2, V.int (-1), V.bl true, V.bl false, V.non, V.str "0", V.ref q1, V.int 1]) hp ta ma
      refine ⟨_, rfl, tp, 8, rfl, l, tb, by decide, by decide, fun r H' r0 r1' t' m' => ?_⟩
      have np := ta.new hp
      have hq1' : H' q1 = some (.tup [V.int 0]) := (tb.keep m').tups _ _ (same_new hp _ _ upd_same)
      obtain ⟨v, e, hv, he⟩ := pick (H' := H') (ws := [V.int 2, V.int (-1), V.bl true, V.bl false, V.non, V.str "0", V.ref q1, V.int 1]) (.cons (.int 2) (.cons (.int (-1)) (.cons (.bl true) (.cons (.bl false) (.cons .non (.cons (.str _ (by decide +kernel)) (.cons (.tup hq1' (.cons (.int 0) .nil)) (.cons (.int 1) .nil)))))))) r0 r1'
      refine ⟨p, _, r, v, rfl, rfl, SqL.of (m' _ _ upd_same np.1), hv, _, rfl, (by show 3 ≤ PySem.sizeLine; decide), fun t ht => ?_⟩
      have g := same_new (o := .tup [x1, v, x3]) ht
      have mm := mb.trans m'
      exact ⟨.ref t, v8, rfl, t'.same g, mm.trans (mov_same g), _, .tup upd_same (.cons (At.same g _ _ (At.tape X1 t2 mm)) (.cons (At.same g _ _ he) (.cons (At.same g _ _ (At.tape X3 t2 mm)) .nil)))⟩
    clear t3 m3 Ad
    rintro σ H3 ⟨od, v8, rfl, t3, m3, dd, Ad⟩
    -- kind 2
    refine ⟨fun σ H' => ∃ od v8, σ = [some (.ref tp), some (.ref a), some (.int (k : Int)), some x1, some x2, some x3, some (.int r2), some od, v8] ∧ TapeAt H' tp l ∧ Mov tp H2 H' ∧ ∃ dd, At tp H' od dd, ?_, ?_⟩
    · refine ⟨_, rfl, rfl, _, rfl, ?_⟩
      refine ite2 (fun _ => ?_) (fun _ => ⟨od, v8, rfl, t3, m3, dd, Ad⟩)
      refine ⟨(by show 1 ≤ PySem.sizeLine; decide), fun q1 h1' => ⟨(by show 1 ≤ PySem.sizeLine; decide), fun q2 h2' => ?_⟩⟩
      refine .inr (.inr ⟨q2, 21, _, rfl, rfl, SqT.of upd_same, (fun z => nomatch z), by decide, by decide, by decide, fun q3 h3' => ?_⟩)
      refine ⟨(by show 1 ≤ PySem.sizeLine; decide), fun q4 h4' => ?_⟩
      refine .inr (.inr ⟨q4, 20, _, rfl, rfl, SqT.of upd_same, (fun z => nomatch z), by decide, by decide, by decide, fun q5 h5' => ?_⟩)
      refine ⟨(by show 1 ≤ PySem.sizeLine; decide), fun q6 h6' => ⟨(by show 1 ≤ PySem.sizeLine; decide), fun q7 h7' => ?_⟩⟩
      refine ⟨_, 20, rfl, rfl, by decide, by decide, by decide +kernel, by decide +kernel, by decide +kernel, (by show 1 ≤ PySem.sizeLine; decide), fun q8 h8' => ?_⟩
      refine ⟨_, 21, rfl, rfl, by decide, by decide, by decide +kernel, by decide +kernel, by decide +kernel, (by show 1 ≤ PySem.sizeLine; decide), fun q9 h9' => ?_⟩
      refine ⟨(by show 1 ≤ PySem.sizeLine; decide), fun q10 h10' => ⟨(by show 1 ≤ PySem.sizeLine; decide), fun q11 h11' => ⟨(by show 10 ≤ PySem.sizeLine; decide), fun p hp => ?_⟩⟩⟩
      obtain ⟨ta0, ma0⟩ := lay (o := .lst [V.str "a"]) h1' t3 m3
      obtain ⟨ta1, ma1⟩ := lay (o := .tup [V.str "a"]) h2' ta0 ma0
      obtain ⟨ta2, ma2⟩ := lay (o := .tup (List.replicate (21 : Int).toNat [V.str "a"]).flatten) h3' ta1 ma1
      obtain ⟨ta3, ma3⟩ := lay (o := .tup [V.str "a"]) h4' ta2 ma2
      obtain ⟨ta4, ma4⟩ := lay (o := .tup (List.replicate (20 : Int).toNat [V.str "a"]).flatten) h5' ta3 ma3
      obtain ⟨ta5, ma5⟩ := lay (o := .tup [V.str "A"]) h6' ta4 ma4
      obtain ⟨ta6, ma6⟩ := lay (o := .tup [V.non]) h7' ta5 ma5
      obtain ⟨ta7, ma7⟩ := lay (o := .tup [V.str ⟨(List.replicate (20 : Int).toNat ("a" : Str).cps).foldl (· ++ ·) #[]⟩]) h8' ta6 ma6
      obtain ⟨ta8, ma8⟩ := lay (o := .tup [V.str ⟨(List.replicate (21 : Int).toNat ("a" : Str).cps).foldl (· ++ ·) #[]⟩]) h9' ta7 ma7
      obtain ⟨ta9, ma9⟩ := lay (o := .tup [V.str "a"]) h10' ta8 ma8
      obtain ⟨ta10, ma10⟩ := lay (o := .tup [V.ref q10]) h11' ta9 ma9
      obtain ⟨ta11, ma11⟩ := lay (o := .lst [V.ref q1, V.ref q3, V.ref q5, V.ref q6, V.ref q7, V.str "a", V.non, V.ref q8, V.ref q9, V.ref q11]) hp ta10 ma10
      have s10 := same_new (o := .lst [V.ref q1, V.ref q3, V.ref q5, V.ref q6, V.ref q7, V.str "a", V.non, V.ref q8, V.ref q9, V.ref q11]) hp
      have s9 := (same_new (o := .tup [V.ref q10]) h11').trans s10
      have s8 := (same_new (o := .tup [V.str "a"]) h10').trans s9
      have s7 := (same_new (o := .tup [V.str ⟨(List.replicate (21 : Int).toNat ("a" : Str).cps).foldl (· ++ ·) #[]⟩]) h9').trans s8
      have s6 := (same_new (o := .tup [V.str ⟨(List.replicate (20 : Int).toNat ("a" : Str).cps).foldl (· ++ ·) #[]⟩]) h8').trans s7
      have s5 := (same_new (o := .tup [V.non]) h7').trans s6
      have s4 := (same_new (o := .tup [V.str "A"]) h6').trans s5
      have s3 := (same_new (o := .tup (List.replicate (20 : Int).toNat [V.str "a"]).flatten) h5').trans s4
      have s2 := (same_new (o := .tup [V.str "a"]) h4').trans s3
      have s1 := (same_new (o := .tup (List.replicate (21 : Int).toNat [V.str "a"]).flatten) h3').trans s2
      have s0 := (same_new (o := .tup [V.str "a"]) h2').trans s1
      have np := ta10.new hp
      have n1 := t3.new h1'
      have e0 := s0 _ _ upd_same
      have e2 := s2 _ _ upd_same
      have e4 := s4 _ _ upd_same
      have e5 := s5 _ _ upd_same
      have e6 := s6 _ _ upd_same
      have e7 := s7 _ _ upd_same
      have e8 := s8 _ _ upd_same
      have e9 := s9 _ _ upd_same
      have e10 := s10 _ _ upd_same
      have e2 := e2.trans (congrArg (fun z => some (HO.tup z)) (rep_flat (V.str "a") (21 : Int).toNat))
      have e4 := e4.trans (congrArg (fun z => some (HO.tup z)) (rep_flat (V.str "a") (20 : Int).toNat))
      have sa : ∀ {H' : Hp}, At tp H' (V.str "a") (.str "a") := .str _ (by decide +kernel)
      have reps : ∀ (H' : Hp) (n : Nat), AtAll tp H' (List.replicate n (V.str "a")) (List.replicate n (.str "a")) := fun H' n => paired_atAll (paired_repl (R := At tp H') sa n)
      refine ⟨_, rfl, _, rfl, _, rfl, _, rfl, tp, p, rfl, l, _, ta11, upd_same, np.1, (by show 1 ≤ 10; decide), (by show 10 ≤ 1000; decide), fun v H' hv t' m' => ?_⟩
      obtain ⟨e, he⟩ := at_mem (xs := [V.ref q1, V.ref q3, V.ref q5, V.ref q6, V.ref q7, V.str "a", V.non, V.ref q8, V.ref q9, V.ref q11]) (.cons (.lst n1.1 e0 (.cons sa .nil)) (.cons (.tup e2 (reps _ _)) (.cons (.tup e4 (reps _ _)) (.cons (.tup e5 (.cons (.str _ (by decide +kernel)) .nil)) (.cons (.tup e6 (.cons .non .nil)) (.cons sa (.cons .non (.cons (.tup e7 (.cons (.str _ (by decide +kernel)) .nil)) (.cons (.tup e8 (.cons (.str _ (by decide +kernel)) .nil)) (.cons (.tup e10 (.cons (.tup e9 (.cons sa .nil)) .nil)) .nil)))))))))) hv
      have he' := At.tape he ta11 m'
      refine ⟨(by show 3 ≤ PySem.sizeLine; decide), fun t ht => ?_⟩
      have g := same_new (o := .tup [x1, x2, v]) ht
      have mm := ma11.trans m'
      exact ⟨.ref t, _, rfl, t'.same g, mm.trans (mov_same g), _, .tup upd_same (.cons (At.same g _ _ (At.tape X1 t2 mm)) (.cons (At.same g _ _ (At.tape X2 t2 mm)) (.cons (At.same g _ _ he') .nil)))⟩
    clear t3 m3 Ad
    rintro σ H3 ⟨od, v8, rfl, t3, m3, dd, Ad⟩
    -- kind 3
    refine ⟨fun σ H' => ∃ od v8, σ = [some (.ref tp), some (.ref a), some (.int (k : Int)), some x1, some x2, some x3, some (.int r2), some od, v8] ∧ TapeAt H' tp l ∧ Mov tp H2 H' ∧ ∃ dd, At tp H' od dd, ?_, ?_⟩
    · refine ⟨_, rfl, rfl, _, rfl, ?_⟩
      refine ite2 (fun _ => ?_) (fun _ => ⟨od, v8, rfl, t3, m3, dd, Ad⟩)
      refine ⟨_, rfl, _, rfl, l2, fun q1 h1' => ?_⟩
      refine ⟨_, rfl, _, rfl, _, rfl, (by show 4 ≤ PySem.sizeLine; decide), fun q2 h2' => ?_⟩
      refine ⟨_, rfl, _, rfl, _, rfl, (by show 3 ≤ PySem.sizeLine; decide), fun q3 h3' => ?_⟩
      refine ⟨_, rfl, _, rfl, _, rfl, (by show 3 ≤ PySem.sizeLine; decide), fun q4 h4' => ?_⟩
      refine fun q5 h5' => ⟨(by show 7 ≤ PySem.sizeLine; decide), fun p hp => ?_⟩
      obtain ⟨t1a, m1a⟩ := lay (o := .tup [x1, x2]) h1' t3 m3
      obtain ⟨t2a, m2a⟩ := lay (o := .tup [x1, x2, x3, V.int 0]) h2' t1a m1a
      obtain ⟨t3a, m3a⟩ := lay (o := .lst [x1, x2, x3]) h3' t2a m2a
      obtain ⟨t4a, m4a⟩ := lay (o := .tup [x2, x1, x3]) h4' t3a m3a
      obtain ⟨t5a, m5a⟩ := lay (o := .dK []) h5' t4a m4a
      obtain ⟨t6a, m6a⟩ := lay (o := .lst [V.non, V.ref q1, V.ref q2, V.ref q3, V.ref q4, V.str "board", V.ref q5]) hp t5a m5a
      refine ⟨_, rfl, tp, 7, rfl, l, t6a, by decide, by decide, fun r H' r0 r1' t' m' => ?_⟩
      have np := t5a.new hp
      have n3 := t2a.new h3'
      have s5 := same_new (o := .lst [V.non, V.ref q1, V.ref q2, V.ref q3, V.ref q4, V.str "board", V.ref q5]) hp
      have s4 := (same_new (o := .dK []) h5').trans s5
      have s3 := (same_new (o := .tup [x2, x1, x3]) h4').trans s4
      have s2 := (same_new (o := .lst [x1, x2, x3]) h3').trans s3
      have s1 := (same_new (o := .tup [x1, x2, x3, V.int 0]) h2').trans s2
      have kk := t6a.keep m'
      have e1 : H' q1 = some (.tup [x1, x2]) := kk.tups _ _ (s1 _ _ upd_same)
      have e2 : H' q2 = some (.tup [x1, x2, x3, V.int 0]) := kk.tups _ _ (s2 _ _ upd_same)
      have e3 : H' q3 = some (.lst [x1, x2, x3]) := m' _ _ (s3 _ _ upd_same) n3.1
      have e4 : H' q4 = some (.tup [x2, x1, x3]) := kk.tups _ _ (s4 _ _ upd_same)
      have e5 : H' q5 = some (.dK []) := kk _ _ (s5 _ _ upd_same) (fun _ e => nomatch e)
      have mm := m6a.trans m'
      have Y1 := At.tape X1 t2 mm
      have Y2 := At.tape X2 t2 mm
      have Y3 := At.tape X3 t2 mm
      obtain ⟨v, e, hv, he⟩ := pick (H' := H') (ws := [V.non, V.ref q1, V.ref q2, V.ref q3, V.ref q4, V.str "board", V.ref q5]) (.cons .non (.cons (.tup e1 (.cons Y1 (.cons Y2 .nil))) (.cons (.tup e2 (.cons Y1 (.cons Y2 (.cons Y3 (.cons (.int 0) .nil))))) (.cons (.lst n3.1 e3 (.cons Y1 (.cons Y2 (.cons Y3 .nil)))) (.cons (.tup e4 (.cons Y2 (.cons Y1 (.cons Y3 .nil)))) (.cons (.str _ (by decide +kernel)) (.cons (.dct e5) .nil))))))) r0 r1'
      exact ⟨p, _, r, v, rfl, rfl, SqL.of (m' _ _ upd_same np.1), hv, v, v8, rfl, t', mm, e, he⟩
    clear t3 m3 Ad
    rintro σ H3 ⟨od, v8, rfl, t3, m3, dd, Ad⟩
    have ha3 := (t2.keep m3).tups _ _ ha2
    have pr3 := paired_mono (fun _ _ z => At.tape z t2 m3) pr2
    have m03 := m02.trans m3
    -- kind 4
    refine ⟨_, rfl, rfl, _, rfl, ?_⟩
    refine ite2 (fun _ => ?_) (fun _ => ?_)
    · refine ⟨_, rfl, _, rfl, (by show 1 ≤ PySem.sizeLine; decide), fun q1 h1' => ?_⟩
      obtain ⟨ta, ma⟩ := lay (o := .tup [od]) h1' t3 m3
      refine ⟨_, rfl, tp, 14, rfl, l, ta, by decide, by decide, fun r H' r0 r1' t' m' => ?_⟩
      have mm := ma.trans m'
      have haE := (ta.keep m').tups _ _ (same_new h1' _ _ ha3)
      have hq := (ta.keep m').tups _ _ (show upd H3 q1 (.tup [od]) q1 = some (.tup [od]) from upd_same)
      have AdE := At.tape (At.same (same_new h1') _ _ Ad) ta m'
      have prE := paired_mono (fun _ _ z => At.tape z t2 mm) pr2
      have fin : ∀ (n : Nat) (p : Addr) (H5 : Hp), n ≤ 13 → Same H' H5 → H5 p = some (.tup (List.replicate n od)) → rCatA K (.ref a) (.ref p) H5 Q := fun n p H5 hn g hp5 => by
        refine cat_tups (g _ _ haE) hp5 (by rw [List.length_replicate]; omega) fun r5 H6 g6 h6 => ?_
        have g56 := g.trans g6
        refine q r5 _ (ds ++ List.replicate n dd) H6 h6 (paired_app (paired_mono (fun _ _ z => At.same g56 _ _ z) prE) (paired_mono (fun _ _ z => At.same g56 _ _ z) ?_)) (by rw [List.length_append]; omega) (by rw [List.length_append, List.length_replicate]; omega) (t'.same g56) ((m02.trans mm).trans (mov_same g56))
        exact paired_repl AdE n
      obtain ⟨n, rfl⟩ : ∃ n : Nat, r = (n : Int) := ⟨r.toNat, by omega⟩
      match n, r1' with
      | 0, _ => exact .inl ⟨q1, _, rfl, rfl, SqT.of hq, (fun z => nomatch z), fun p hp => fin 0 p _ (by omega) (same_new hp) upd_same⟩
      | 1, _ => exact .inr (.inl ⟨q1, _, rfl, rfl, SqT.of hq, fin 1 q1 H' (by omega) (Same.refl H') hq⟩)
      | n + 2, r1' =>
        refine .inr (.inr ⟨q1, _, _, rfl, rfl, SqT.of hq, (fun z => nomatch z), by omega, by omega, (by show 1 ≤ 1000; decide), fun p hp => ?_⟩)
        refine fin (n + 2) p _ (by omega) (same_new hp) ?_
        rw [upd_same, Int.toNat_natCast, rep_flat]
    · refine ⟨_, rfl, _, rfl, _, rfl, sl_take (k := k) ha3 fun r4 H4 g4 h4 => ?_⟩
      refine ⟨_, rfl, (by show 1 ≤ PySem.sizeLine; decide), fun q1 hq1 => ?_⟩
      have g5 := g4.trans (same_new (o := .tup [od]) hq1)
      refine cat_tups (same_new hq1 _ _ h4) upd_same (by rw [List.length_take]; show _ + 1 ≤ 4000; omega) fun r5 H5 g6 h5 => ?_
      have g35 := g5.trans g6
      refine ⟨_, rfl, _, rfl, _, _, rfl, rfl, _, rfl, ?_⟩
      have kl : k < xs.length := (List.getElem?_eq_some_iff.mp hx).1
      have cutE : cutV xs (some ((k : Int) + 1)) none = xs.drop (k + 1) := by
        rw [show ((k : Int) + 1) = ((k + 1 : Nat) : Int) by omega]
        unfold cutV
        rw [HT.sIx_nat, HT.sIx_none, Nat.min_eq_left (by omega), List.take_of_length_le (by rw [List.length_drop]; exact Nat.le_refl _)]
      have fin2 : ∀ (r6 : Addr) (H6 : Hp), Same H5 H6 → H6 r6 = some (.tup (xs.drop (k + 1))) → rCatA K (.ref r5) (.ref r6) H6 Q := fun r6 H6 g7 h6 => by
        refine cat_tups (g7 _ _ h5) h6 (by rw [List.length_append, List.length_take, List.length_drop]; show _ + 1 + _ ≤ 4000; omega) fun r7 H7 g8 h7 => ?_
        have g37 := (g35.trans g7).trans g8
        have AdE := At.same g37 _ _ Ad
        have prE := paired_mono (fun _ _ z => At.same g37 _ _ z) pr3
        refine q r7 _ ((ds.take k ++ [dd]) ++ ds.drop (k + 1)) H7 h7 (paired_app (paired_app (paired_take prE k) (.cons AdE .nil)) (paired_drop prE (k + 1))) ?_ ?_ (t3.same g37) (m03.trans (mov_same g37))
        · rw [List.length_append, List.length_append]
          show 1 ≤ _ + 1 + _
          omega
        · rw [List.length_append, List.length_append, List.length_take, List.length_drop]
          show _ + 1 + _ ≤ _
          omega
      refine ⟨a, xs, rfl, SqT.of (g35 _ _ ha3), fun z => absurd z.1 ?_, fun _ p hp => fin2 p _ (same_new hp) (by rw [upd_same, cutE])⟩
      rw [show ((k : Int) + 1) = ((k + 1 : Nat) : Int) by omega, HT.sIx_nat]
      omega
end
end K11
namespace K11
open PySem L2 Nm
open C8 (Cal Mak pe_c pe_mk pe_gc)
open RZ (ItzT pi_zipA)
theorem kit_tl_tup {K : PySem.W.Frag} : PySem.W.kitAny K (.type "tuple") [.type "tuple", .type "list"] = some true := kitAny_cons (b := true) (kit_ty (by decide +kernel)) (fun z => absurd z (by decide)) (fun _ => rfl)
theorem kit_tl_int {K : PySem.W.Frag} : PySem.W.kitAny K (.type "int") [.type "tuple", .type "list"] = some false := kitAny_cons (b := false) (kit_ty (by decide +kernel)) (fun _ => kitAny_cons (b := false) (kit_ty (by decide +kernel)) (fun _ => kitAny_nil) (fun z => absurd z (by decide))) (fun z => absurd z (by decide))
theorem kit_tl_str {K : PySem.W.Frag} : PySem.W.kitAny K (.type "str") [.type "tuple", .type "list"] = some false := kitAny_cons (b := false) (kit_ty (by decide +kernel)) (fun _ => kitAny_cons (b := false) (kit_ty (by decide +kernel)) (fun _ => kitAny_nil) (fun z => absurd z (by decide))) (fun z => absurd z (by decide))
/-- ints and texts, and tuples of them, so deep -/
def plainD : Nat → PyData → Prop
  | 0, d => (∃ i, d = .int i) ∨ ∃ z, d = .str z
  | n + 1, d => ((∃ i, d = .int i) ∨ ∃ z, d = .str z) ∨ ∃ ds, d = .tuple ds ∧ ds.length ≤ 1000 ∧ ∀ e ∈ ds, plainD n e
section
variable {P : Program} {w : World} {K : PySem.W.Frag} {mg : Str → Option Value} {base : Heap}
/-- the same thing told twice -/
def sp_same (n : Nat) : Sp := fun vs H Q _ => ∃ (x y : V), vs = [x, y] ∧ ∃ tp d, At tp H x d ∧ At tp H y d ∧ plainD n d ∧ ∀ H', Same H H' → Q (.bl true) H'
theorem c_same (T : Txt K mg) : ∀ n : Nat, Cal P w K mg base (n + 1) "_law_is" (sp_same n) []
  | 0 => by
    have C__law_is : Cal P w K mg base 0 "_law_is" (fun _ _ _ _ => False) [] := cal_void T.d__law_is (ps := ["told", "due"]) (fun _ _ _ _ _ _ us hl => match us, hl with | [_, _], _ => rfl) fun vs H Q E h => h
    have sc := sc__law_is
    refine cal_of (k := 0) T.d__law_is sc (fun _ _ _ _ _ _ us hl => match us, hl with | [_, _], _ => rfl) (fun vs H Q E h => ?_) (fun f cdv A outer s H vs Q E hr h => ?_)
    · obtain ⟨x, y, rfl, _⟩ := h
      rfl
    obtain ⟨x, y, rfl, tp, d, hA, hB, okd, q⟩ := h
    refine ⟨_, (pss_cons (ps_if (pt_val (pe_callB call_isiT rfl T.m_isinstance (by decide +kernel) (pa_cons (pv 1) (pa_cons (pe_tup (pa_cons (pe_bltn (v := .ty "tuple") (u := .type "tuple") rfl T.m_tuple (by decide +kernel) rfl) (pa_cons (pe_bltn (v := .ty "list") (u := .type "list") rfl T.m_list (by decide +kernel) rfl) pa_nil))) pa_nil)))) (pss_cons (ps_if (PW.pt (pw_or (pt_cmpR op_ne (pe_callB call_isi rfl T.m_isinstance (by decide +kernel) (pa_cons (pv 0) (pa_cons (pe_bltn (v := .ty "tuple") (u := .type "tuple") rfl T.m_tuple (by decide +kernel) rfl) pa_nil))) (pe_callB call_isi rfl T.m_isinstance (by decide +kernel) (pa_cons (pv 1) (pa_cons (pe_bltn (v := .ty "tuple") (u := .type "tuple") rfl T.m_tuple (by decide +kernel) rfl) pa_nil))) (nomark _)) (pw_or1 (pt_not (pt_val (pe_callB call_isiT rfl T.m_isinstance (by decide +kernel) (pa_cons (pv 0) (pa_cons (pe_tup (pa_cons (pe_bltn (v := .ty "tuple") (u := .type "tuple") rfl T.m_tuple (by decide +kernel) rfl) (pa_cons (pe_bltn (v := .ty "list") (u := .type "list") rfl T.m_list (by decide +kernel) rfl) pa_nil))) pa_nil)))))))) (pss_one (ps_ret pe_bl)) pss_nil)
  (pss_one (ps_ret (pe_and (pe_cmpR op_eq (pe_callB call_len_seq rfl T.m_len (by decide +kernel) (pa_cons (pv 0) pa_nil)) (pe_callB call_len_seq rfl T.m_len (by decide +kernel) (pa_cons (pv 1) pa_nil)) (nomark _)) (pe_one (pe_callB (cr_all rfl) rfl T.m_all (by decide +kernel) (pa_cons (pe_lc (own := [("one", 2), ("two", 3)]) (g := gTup K 2 (gCons (gName 2) (gCons (gName 3) gNil))) rfl sc.nd (pi_zipA rfl T.m_zip (pa_cons (pv 0) (pa_cons (pv 1) pa_nil))) (blkOk_by (own := [("one", 2), ("two", 3)]) (N := ["told", "due", "one", "two"]) (sc := defScope s__law_is) (by decide +kernel)) (fun _ _ _ _ _ => (pg_tup rfl (pgs_cons (pg_name (i := 2) sc.nd rfl (Or.inl rfl)) (pgs_cons (pg_name (i := 3) sc.nd rfl (Or.inl rfl)) pgs_nil)))) (fun _ _ _ _ _ => pts_nil) (fun _ _ _ _ _ => (pe_c C__law_is hr (by omega) rfl (pa_cons (pv 2) (pa_cons (pv 3) pa_nil))))) pa_nil))))))) pss_nil)
  (pss_one (ps_ret (pe_and (pe_cmpR op_eq (pe_callB call_isi rfl T.m_isinstance (by decide +kernel) (pa_cons (pv 0) (pa_cons (pe_bltn (v := .ty "bool") (u := .type "bool") rfl T.m_bool (by decide +kernel) rfl) pa_nil))) (pe_callB call_isi rfl T.m_isinstance (by decide +kernel) (pa_cons (pv 1) (pa_cons (pe_bltn (v := .ty "bool") (u := .type "bool") rfl T.m_bool (by decide +kernel) rfl) pa_nil))) (nomark _)) (pe_one (pe_cmpR op_eq (pv 0) (pv 1) (nomark _))))))), ?_⟩
    rcases okd with ⟨i, rfl⟩ | ⟨z, rfl⟩
    · cases hA
      cases hB
      refine ⟨_, rfl, l2, fun tq htq => ?_⟩
      have g0 := same_new (o := .tup [V.ty "tuple", V.ty "list"]) htq
      refine ⟨_, tq, _, _, _, false, rfl, upd_same, .cons (.ty _) (.cons (.ty _) .nil), .base (.int i), kit_tl_int, false, rfl, ?_⟩
      refine iteF ?_
      refine ⟨_, rfl, _, _, _, _, false, rfl, .ty _, .base (.int i), kit_ty (a := "int") (b := "bool") (by decide +kernel), _, rfl, _, _, _, _, false, rfl, .ty _, .base (.int i), kit_ty (a := "int") (b := "bool") (by decide +kernel), rfl, _, rfl, ?_⟩
      refine iteP rfl ⟨_, rfl, _, rfl, rfl, ?_⟩
      have e := q _ g0
      rw [← decide_eq_true (show V.int i = V.int i from rfl)] at e
      exact e
    · cases hA
      cases hB
      refine ⟨_, rfl, l2, fun tq htq => ?_⟩
      have g0 := same_new (o := .tup [V.ty "tuple", V.ty "list"]) htq
      refine ⟨_, tq, _, _, _, false, rfl, upd_same, .cons (.ty _) (.cons (.ty _) .nil), .base (.str z), kit_tl_str, false, rfl, ?_⟩
      refine iteF ?_
      refine ⟨_, rfl, _, _, _, _, false, rfl, .ty _, .base (.str z), kit_ty (a := "str") (b := "bool") (by decide +kernel), _, rfl, _, _, _, _, false, rfl, .ty _, .base (.str z), kit_ty (a := "str") (b := "bool") (by decide +kernel), rfl, _, rfl, ?_⟩
      refine iteP rfl ⟨_, rfl, _, rfl, rfl, ?_⟩
      have e := q _ g0
      rw [← decide_eq_true (show V.str z = V.str z from rfl)] at e
      exact e
  | n + 1 => by
    have C__law_is := c_same T n
    have sc := sc__law_is
    refine cal_of (k := n + 1) T.d__law_is sc (fun _ _ _ _ _ _ us hl => match us, hl with | [_, _], _ => rfl) (fun vs H Q E h => ?_) (fun f cdv A outer s H vs Q E hr h => ?_)
    · obtain ⟨x, y, rfl, _⟩ := h
      rfl
    obtain ⟨x, y, rfl, tp, d, hA, hB, okd, q⟩ := h
    refine ⟨_, (pss_cons (ps_if (pt_val (pe_callB call_isiT rfl T.m_isinstance (by decide +kernel) (pa_cons (pv 1) (pa_cons (pe_tup (pa_cons (pe_bltn (v := .ty "tuple") (u := .type "tuple") rfl T.m_tuple (by decide +kernel) rfl) (pa_cons (pe_bltn (v := .ty "list") (u := .type "list") rfl T.m_list (by decide +kernel) rfl) pa_nil))) pa_nil)))) (pss_cons (ps_if (PW.pt (pw_or (pt_cmpR op_ne (pe_callB call_isi rfl T.m_isinstance (by decide +kernel) (pa_cons (pv 0) (pa_cons (pe_bltn (v := .ty "tuple") (u := .type "tuple") rfl T.m_tuple (by decide +kernel) rfl) pa_nil))) (pe_callB call_isi rfl T.m_isinstance (by decide +kernel) (pa_cons (pv 1) (pa_cons (pe_bltn (v := .ty "tuple") (u := .type "tuple") rfl T.m_tuple (by decide +kernel) rfl) pa_nil))) (nomark _)) (pw_or1 (pt_not (pt_val (pe_callB call_isiT rfl T.m_isinstance (by decide +kernel) (pa_cons (pv 0) (pa_cons (pe_tup (pa_cons (pe_bltn (v := .ty "tuple") (u := .type "tuple") rfl T.m_tuple (by decide +kernel) rfl) (pa_cons (pe_bltn (v := .ty "list") (u := .type "list") rfl T.m_list (by decide +kernel) rfl) pa_nil))) pa_nil)))))))) (pss_one (ps_ret pe_bl)) pss_nil)
  (pss_one (ps_ret (pe_and (pe_cmpR op_eq (pe_callB call_len_seq rfl T.m_len (by decide +kernel) (pa_cons (pv 0) pa_nil)) (pe_callB call_len_seq rfl T.m_len (by decide +kernel) (pa_cons (pv 1) pa_nil)) (nomark _)) (pe_one (pe_callB (cr_all rfl) rfl T.m_all (by decide +kernel) (pa_cons (pe_lc (own := [("one", 2), ("two", 3)]) (g := gTup K 2 (gCons (gName 2) (gCons (gName 3) gNil))) rfl sc.nd (pi_zipA rfl T.m_zip (pa_cons (pv 0) (pa_cons (pv 1) pa_nil))) (blkOk_by (own := [("one", 2), ("two", 3)]) (N := ["told", "due", "one", "two"]) (sc := defScope s__law_is) (by decide +kernel)) (fun _ _ _ _ _ => (pg_tup rfl (pgs_cons (pg_name (i := 2) sc.nd rfl (Or.inl rfl)) (pgs_cons (pg_name (i := 3) sc.nd rfl (Or.inl rfl)) pgs_nil)))) (fun _ _ _ _ _ => pts_nil) (fun _ _ _ _ _ => (pe_c C__law_is hr (by omega) rfl (pa_cons (pv 2) (pa_cons (pv 3) pa_nil))))) pa_nil))))))) pss_nil)
  (pss_one (ps_ret (pe_and (pe_cmpR op_eq (pe_callB call_isi rfl T.m_isinstance (by decide +kernel) (pa_cons (pv 0) (pa_cons (pe_bltn (v := .ty "bool") (u := .type "bool") rfl T.m_bool (by decide +kernel) rfl) pa_nil))) (pe_callB call_isi rfl T.m_isinstance (by decide +kernel) (pa_cons (pv 1) (pa_cons (pe_bltn (v := .ty "bool") (u := .type "bool") rfl T.m_bool (by decide +kernel) rfl) pa_nil))) (nomark _)) (pe_one (pe_cmpR op_eq (pv 0) (pv 1) (nomark _))))))), ?_⟩
    rcases okd with okd | ⟨ds, rfl, l1000, each⟩
    · rcases okd with ⟨i, rfl⟩ | ⟨z, rfl⟩
      · cases hA
        cases hB
        refine ⟨_, rfl, l2, fun tq htq => ?_⟩
        have g0 := same_new (o := .tup [V.ty "tuple", V.ty "list"]) htq
        refine ⟨_, tq, _, _, _, false, rfl, upd_same, .cons (.ty _) (.cons (.ty _) .nil), .base (.int i), kit_tl_int, false, rfl, ?_⟩
        refine iteF ?_
        refine ⟨_, rfl, _, _, _, _, false, rfl, .ty _, .base (.int i), kit_ty (a := "int") (b := "bool") (by decide +kernel), _, rfl, _, _, _, _, false, rfl, .ty _, .base (.int i), kit_ty (a := "int") (b := "bool") (by decide +kernel), rfl, _, rfl, ?_⟩
        refine iteP rfl ⟨_, rfl, _, rfl, rfl, ?_⟩
        have e := q _ g0
        rw [← decide_eq_true (show V.int i = V.int i from rfl)] at e
        exact e
      · cases hA
        cases hB
        refine ⟨_, rfl, l2, fun tq htq => ?_⟩
        have g0 := same_new (o := .tup [V.ty "tuple", V.ty "list"]) htq
        refine ⟨_, tq, _, _, _, false, rfl, upd_same, .cons (.ty _) (.cons (.ty _) .nil), .base (.str z), kit_tl_str, false, rfl, ?_⟩
        refine iteF ?_
        refine ⟨_, rfl, _, _, _, _, false, rfl, .ty _, .base (.str z), kit_ty (a := "str") (b := "bool") (by decide +kernel), _, rfl, _, _, _, _, false, rfl, .ty _, .base (.str z), kit_ty (a := "str") (b := "bool") (by decide +kernel), rfl, _, rfl, ?_⟩
        refine iteP rfl ⟨_, rfl, _, rfl, rfl, ?_⟩
        have e := q _ g0
        rw [← decide_eq_true (show V.str z = V.str z from rfl)] at e
        exact e
    rcases tupOr hA with ⟨a, xs, es, rfl, ee, ha, pa⟩ | ⟨_, no⟩
    rotate_left
    · exact absurd rfl (no ds)
    cases ee
    rcases tupOr hB with ⟨b, ys, es, rfl, ee, hb, pb⟩ | ⟨_, no⟩
    rotate_left
    · exact absurd rfl (no ds)
    cases ee
    have ex : xs.length = ds.length := paired_len pa
    have ey : ys.length = ds.length := paired_len pb
    refine ⟨_, rfl, l2, fun tq htq => ?_⟩
    have g0 := same_new (o := .tup [V.ty "tuple", V.ty "list"]) htq
    refine ⟨_, tq, _, _, _, true, rfl, upd_same, .cons (.ty _) (.cons (.ty _) .nil), .base (.tup (g0 _ _ hb)), kit_tl_tup, true, rfl, ?_⟩
    refine iteT ?_
    refine ⟨_, rfl, _, _, _, _, true, rfl, .ty _, .base (.tup (g0 _ _ ha)), kit_ty (by decide +kernel), _, rfl, _, _, _, _, true, rfl, .ty _, .base (.tup (g0 _ _ hb)), kit_ty (by decide +kernel), rfl, _, rfl, ?_⟩
    refine iteN (nt rfl) ?_
    refine ⟨_, rfl, l2, fun tr htr => ?_⟩
    have g1 := g0.trans (same_new (o := .tup [V.ty "tuple", V.ty "list"]) htr)
    refine ⟨_, tr, _, _, _, true, rfl, upd_same, .cons (.ty _) (.cons (.ty _) .nil), .base (.tup (g1 _ _ ha)), kit_tl_tup, true, rfl, ?_⟩
    refine iteF ?_
    refine ⟨_, rfl, a, _, rfl, .inr (SqT.of (g1 _ _ ha)), _, rfl, b, _, rfl, .inr (SqT.of (g1 _ _ hb)), rfl, _, rfl, ?_⟩
    rw [decI, decide_eq_true (show (xs.length : Int) = (ys.length : Int) by omega)]
    refine iteT ⟨_, rfl, _, rfl, a, b, xs, ys, rfl, .inr ⟨SqT.of (g1 _ _ ha), SqT.of (g1 _ _ hb), fun D hD => ?_⟩⟩
    have lz : ds.length = min xs.length ys.length := by omega
    refine lc_it (walk_zipT (K := K) (a := a) (b := b) (xs := xs) (ys := ys) lz) (fun i H1 => H1 D = some (.lst (List.replicate i (V.bl true))) ∧ Same H H1) ⟨upd_same, g1.trans (same_new hD)⟩ (fun i H1 _ z => ⟨SqT.of (z.2 _ _ ha), SqT.of (z.2 _ _ hb)⟩) ?_ ?_
    · rintro i x H1 H2 hi ⟨h1, g⟩ ⟨t3, x1, y1, rfl, hn, rfl, e1, e2⟩
      obtain ⟨p, hp, rp⟩ := paired_at pa i _ e1
      obtain ⟨q1, hq1, rq⟩ := paired_at pb i _ e2
      rw [hp] at hq1
      cases hq1
      have g3 := same_new (o := .tup [x1, y1]) hn
      refine ⟨t3, [x1, y1], rfl, SqT.of upd_same, rfl, _, _, rfl, _, _, rfl, rfl, rfl, ?_⟩
      refine ⟨_, rfl, _, rfl, x1, y1, rfl, tp, p, At.same (g.trans g3) _ _ rp, At.same (g.trans g3) _ _ rq, each p (List.mem_of_getElem? hp), fun H4 g4 => ⟨_, g4 _ _ (g3 _ _ h1), ?_, ?_, same_mut ((g.trans g3).trans g4) (g1.free hD)⟩⟩
      · rw [List.length_replicate]
        have b1 : (4000 : Nat) < PySem.sizeLine := by decide
        omega
      · rw [upd_same, List.replicate_succ']
    · rintro H1 ⟨h1, g⟩
      refine ⟨D, List.replicate ds.length true, rfl, SqL.of (by rw [h1, List.map_replicate]), ?_⟩
      have an : (List.replicate ds.length true).all id = true := List.all_eq_true.mpr fun z hz => by rw [List.eq_of_mem_replicate hz]; rfl
      have q1 := q H1 g
      rw [← an] at q1
      exact q1
end
end K11
namespace K11
open PySem L2 Nm
open C8 (Cal Mak pe_c pe_mk pe_gc)
open RZ (ItzT pi_zipA)
theorem not_of {α : Type} [DecidableEq α] {x y : α} (h : x = y) : (!decide (x = y)) = false := by
  rw [decide_eq_true h]
  rfl
theorem at_board {tp : Addr} {H : Hp} {v : V} {b : Bd} (h : BoardAt H v b) (ok : okB b) : ∃ d, At tp H v d := by
  obtain ⟨a, r, rfl, h1, h2⟩ := h
  have row : ∀ ws : List Str, (∀ z ∈ ws, z.length ≤ 1000) → AtAll tp H (ws.map V.str) (ws.map PyData.str) := fun ws => by
    induction ws with
    | nil => exact fun _ => .nil
    | cons w ws ih => exact fun l => .cons (.str w (l w List.mem_cons_self)) (ih fun z hz => l z (List.mem_cons_of_mem _ hz))
  exact ⟨_, .tup h1 (.cons (.str _ ok.2.1) (.cons (.int _) (.cons (.tup h2 (row _ ok.2.2.2)) .nil)))⟩
theorem at_boards {tp : Addr} {H : Hp} : ∀ {xs : List V} {bs : List Bd}, Paired (BoardAt H) xs bs → (∀ b ∈ bs, okB b) → ∃ ds, Paired (At tp H) xs ds
  | _, _, .nil, _ => ⟨[], .nil⟩
  | _, _, .cons h t, ok => by
    obtain ⟨d, hd⟩ := at_board h (ok _ List.mem_cons_self)
    obtain ⟨ds, hds⟩ := at_boards t fun b hb => ok b (List.mem_cons_of_mem _ hb)
    exact ⟨d :: ds, .cons hd hds⟩
theorem firstBad_all : ∀ (ds : List PyData) (k : Nat), firstBad ds k = none → ∀ e ∈ ds, boardD e = true
  | [], _, _, e, he => absurd he (List.not_mem_nil)
  | d :: ds, k, h, e, he => by
    have h' : (if boardD d = true then firstBad ds (k + 1) else some (k : Int)) = none := h
    by_cases c : boardD d = true
    · rw [if_pos c] at h'
      rcases List.mem_cons.mp he with rfl | he
      · exact c
      · exact firstBad_all ds (k + 1) h' e he
    · rw [if_neg c] at h'
      cases h'
theorem plain_row {d : PyData} {m : Int} (h : rowsD d m = true) (hm : m ≤ 1000) : plainD 1 d := by
  cases d with
  | tuple ds =>
    have h' : (decide ((ds.length : Int) ≤ m) && ds.all (fun e => letD e 20)) = true := h
    rw [Bool.and_eq_true] at h'
    have l := of_decide_eq_true h'.1
    refine .inr ⟨ds, rfl, by omega, fun e he => ?_⟩
    have le := List.all_eq_true.mp h'.2 e he
    cases e with
    | str z => exact .inr ⟨z, rfl⟩
    | _ => cases le
  | _ => cases h
theorem plain_board {d : PyData} (h : boardD d = true) : plainD 2 d := by
  cases d with
  | tuple ds =>
    by_cases c : ds.length = 3
    rotate_left
    · rw [boardD_len c] at h
      cases h
    obtain ⟨d1, d2, d3, rfl⟩ : ∃ d1 d2 d3, ds = [d1, d2, d3] := by
      match ds, c with
      | [d1, d2, d3], _ => exact ⟨d1, d2, d3, rfl⟩
    have h' : (letD d1 8 && (intIn d2 0 1 && rowsD d3 20)) = true := h
    rw [Bool.and_eq_true, Bool.and_eq_true] at h'
    refine .inr ⟨_, rfl, by show 3 ≤ 1000; decide, fun e he => ?_⟩
    simp only [List.mem_cons, List.not_mem_nil, or_false] at he
    rcases he with rfl | rfl | rfl
    · cases e with
      | str z => exact .inl (.inr ⟨z, rfl⟩)
      | _ => cases h'.1
    · cases e with
      | int i => exact .inl (.inl ⟨i, rfl⟩)
      | _ => cases h'.2.1
    · exact plain_row h'.2.2 (by decide)
  | _ => cases h
theorem plain_due {d : PyData} (h : dueD d = none) : plainD 3 d := by
  cases d with
  | tuple ds =>
    have h' : (if 1 ≤ ds.length ∧ ds.length ≤ 12 then firstBad ds 0 else some (-1)) = none := h
    by_cases c : 1 ≤ ds.length ∧ ds.length ≤ 12
    · rw [if_pos c] at h'
      exact .inr ⟨ds, rfl, by omega, fun e he => plain_board (firstBad_all ds 0 h' e he)⟩
    · rw [if_neg c] at h'
      cases h'
  | _ => cases h
theorem once_len (zs : List Str) : ∀ i, (onceUp zs i).length ≤ i
  | 0 => Nat.le_refl 0
  | i + 1 => by
    have ih := once_len zs i
    unfold onceUp
    split
    · rw [List.length_append]
      exact Nat.succ_le_succ ih
    · rw [List.append_nil]
      omega
theorem at_strs {tp : Addr} {H : Hp} : ∀ ws : List Str, (∀ z ∈ ws, z.length ≤ 1000) → AtAll tp H (ws.map V.str) (ws.map PyData.str)
  | [], _ => .nil
  | w :: ws, l => .cons (.str w (l w List.mem_cons_self)) (at_strs ws fun z hz => l z (List.mem_cons_of_mem _ hz))
section
variable {P : Program} {w : World} {K : PySem.W.Frag} {mg : Str → Option Value} {base : Heap}
def sp_law (K : PySem.W.Frag) : Sp := fun vs H Q _ => ∃ (a : Addr) (ns : List Int), vs = [.ref a] ∧ SqL K H a (ns.map V.int) ∧ ∀ H', Q (.bl true) H'
theorem ok_law {f : Addr} {fd : FuncData} (F : Fun K "law" "law" s_law f fd) (T : Txt K mg) : FnOk P w K mg base CX0 20 f fd ["script"] (sp_law K) := by
  obtain ⟨CB, fb, fdb, B_BadHall⟩ := T.cls_BadHall
  obtain ⟨C, fi, fdi, MK, hmH, bH, FN⟩ := c_HallX (P := P) (w := w) (base := base) T B_BadHall
  have C__law_tape := c__law_tape (P := P) (w := w) (base := base) T
  have C__law_pick := c__law_pick (P := P) (w := w) (base := base) T
  have C__law_is := c_same (P := P) (w := w) (base := base) T 3
  have C__law_boards := c__law_boards (P := P) (w := w) (base := base) T
  have C__law_due := c__law_due (P := P) (w := w) (base := base) T
  have C__law_bent := c__law_bent (P := P) (w := w) (base := base) T
  have sc := sc_law
  refine F.ok (k := 19) sc (fun vs H Q E h => ?_) (fun cdv A outer s H vs Q E hr h => ?_)
  · obtain ⟨a, ns, rfl, _⟩ := h
    rfl
  · obtain ⟨a, ns, rfl, hs, q⟩ := h
    refine ⟨_, (pss_cons (ps_set (i := 1) sc.nd rfl (Or.inl rfl) (pe_c C__law_tape hr (by omega) rfl (pa_cons (pv 0) pa_nil)))
  (pss_cons (ps_for PassesOwn.never rfl (pi_range1 rfl T.m_range (pa_cons pe_int pa_nil)) (pg_name (i := 2) sc.nd rfl (Or.inl rfl)) (pss_cons (ps_set (i := 3) sc.nd rfl (Or.inl rfl) (pe_c C__law_boards hr (by omega) rfl (pa_cons (pv 1) (pa_cons pe_int (pa_cons pe_bl pa_nil)))))
  (pss_cons (ps_for PassesOwn.never rfl (pi_range1 rfl T.m_range (pa_cons (pe_c C__law_pick hr (by omega) rfl (pa_cons (pv 1) (pa_cons pe_int pa_nil))) pa_nil)) (pg_name (i := 4) sc.nd rfl (Or.inl rfl)) (pss_one (ps_if (PW.pt (pw_and (pt_val (pe_callB call_isi rfl T.m_isinstance (by decide +kernel) (pa_cons (pv 3) (pa_cons (pe_bltn (v := .ty "tuple") (u := .type "tuple") rfl T.m_tuple (by decide +kernel) rfl) pa_nil)))) (pw_and1 (pt_cmpR op_gt (pe_callB call_len_seq rfl T.m_len (by decide +kernel) (pa_cons (pv 3) pa_nil)) pe_int (nomark _))))) (pss_one (ps_set (i := 3) sc.nd rfl (Or.inl rfl) (pe_c C__law_bent hr (by omega) rfl (pa_cons (pv 1) (pa_cons (pv 3) pa_nil))))) pss_nil)))
  (C8.pss_cut (ps_if (pt_cmpR op_eq (pe_c C__law_pick hr (by omega) rfl (pa_cons (pv 1) (pa_cons pe_int pa_nil))) pe_int (nomark _)) (pss_one (ps_set (i := 3) sc.nd rfl (Or.inl rfl) (pe_ix ix_list (pe_lst (pa_cons pe_non (pa_cons (pe_callTy call_list_of rfl T.m_list (by decide +kernel) (pa_cons (pv 3) pa_nil)) (pa_cons (pe_tup pa_nil) (pa_cons pe_int (pa_cons pe_str (pa_cons pe_dnewK (pa_cons (pe_tup (pa_cons (pv 3) pa_nil)) (pa_cons pe_bl pa_nil))))))))) (pe_c C__law_pick hr (by omega) rfl (pa_cons (pv 1) (pa_cons pe_int pa_nil))) (fun _ _ => rfl)))) pss_nil)
  (pss_cons (ps_set (i := 5) sc.nd rfl (Or.inl rfl) (pe_c C__law_due hr (by omega) rfl (pa_cons (pv 3) pa_nil)))
  (pss_cons (ps_set (i := 6) sc.nd rfl (Or.inl rfl) pe_non)
  (C8.pss_cut (ps_try_as (i := 8) (tb := fun W => tAsg (tMakeS C (sp_HallX K CB C) (WE W) (tCons (tVar 3) tNil)) (gName 7)) (ts := fun a cls d => tAsg (tXf a cls d CB "at" (tVar 8)) (gName 6)) (Wout := fun _ _ _ _ => False) rfl rfl sc.nd rfl rfl ⟨rfl, by decide, .inl B_BadHall.hm⟩ takes0 (fun W pn xe tk _ => pss_one (ps_set (i := 7) sc.nd rfl (Or.inl rfl) (pe_makeS MK FN (hr.mono (by omega)) rfl hmH bH (fun σ => passAt tk σ) (pa_cons (pv 3) pa_nil)))) (fun a oe cls d pn hz hf => pss_one (ps_set (i := 6) sc.nd rfl (Or.inl rfl) (pe_xf B_BadHall.xf B_BadHall.no hz hf (pv 8)))))
  (pss_cons (ps_if (PW.pt (pw_or (pt_cmpR op_ne (pv 6) (pv 5) (nomark _)) (pw_or1 (pt_val (pe_callB call_isi rfl T.m_isinstance (by decide +kernel) (pa_cons (pv 6) (pa_cons (pe_bltn (v := .ty "bool") (u := .type "bool") rfl T.m_bool (by decide +kernel) rfl) pa_nil))))))) (pss_one (ps_ret pe_bl)) pss_nil)
  (pss_one (ps_if (pt_cmpR op_isN (pv 5) pe_non (nomark _)) (pss_cons (ps_set (i := 9) sc.nd rfl (Or.inr rfl) (pe_callB cr_sortedS rfl T.m_sorted (by decide +kernel) (pa_cons (pe_lc (own := [("board", 10)]) (g := gName 10) rfl sc.nd (pi_tup (pv 3)) (blkOk_by (own := [("board", 10)]) (N := ["script", "tape", "turn", "thing", "change", "due", "told", "hall", "e", "names", "board", "k"]) (sc := defScope s_law) (by decide +kernel)) (fun _ _ _ _ _ => (pg_name (i := 10) sc.nd rfl (Or.inl rfl))) (fun _ _ _ _ _ => pts_nil) (fun _ _ _ _ _ => (pe_ix (r := rIxT K) ix_tup (pv 10) pe_int (fun _ _ => rfl)))) pa_nil)))
  (pss_cons (ps_set (i := 9) sc.nd rfl (Or.inr rfl) (pe_callTy call_tuple_of rfl T.m_tuple (by decide +kernel) (pa_cons (pe_lc (own := [("k", 11)]) (g := gName 11) rfl sc.nd (pi_range1 rfl T.m_range (pa_cons (pe_callB call_len_seq rfl T.m_len (by decide +kernel) (pa_cons (pv 9) pa_nil)) pa_nil)) (blkOk_by (own := [("k", 11)]) (N := ["script", "tape", "turn", "thing", "change", "due", "told", "hall", "e", "names", "board", "k"]) (sc := defScope s_law) (by decide +kernel)) (fun _ _ _ _ _ => (pg_name (i := 11) sc.nd rfl (Or.inl rfl))) (fun _ _ _ _ _ => (pts_one (PW.pt (pw_or (pt_cmpR op_eq (pv 11) pe_int (nomark _)) (pw_or1 (pt_cmpR op_ne (pe_ix (r := rIxL K) ix_list (pv 9) (pv 11) (fun _ _ => rfl)) (pe_ix (r := rIxL K) ix_list (pv 9) (pe_op op_sub (pv 11) pe_int) (fun _ _ => rfl)) (nomark _))))))) (fun _ _ _ _ _ => (pe_ix (r := rIxL K) ix_list (pv 9) (pv 11) (fun _ _ => rfl)))) pa_nil)))
  (pss_one (ps_if (PW.pt (pw_or (pt_not (pt_val (pe_c C__law_is hr (by omega) rfl (pa_cons (pe_fld (pv 7) rfl) (pa_cons (pv 3) pa_nil))))) (pw_or1 (pt_not (pt_val (pe_c C__law_is hr (by omega) rfl (pa_cons (pe_fld (pv 7) rfl) (pa_cons (pv 9) pa_nil)))))))) (pss_one (ps_ret pe_bl)) pss_nil)))) pss_nil))))))))))
  (pss_one (ps_ret pe_bl)))), ?_⟩
    refine ⟨_, rfl, a, rfl, ns, hs, fun tp l H1 g1 htp t1 => ?_⟩
    refine ⟨8, rfl, by decide, by decide, ?_⟩
    refine for_range (lo := 0) (n := 8) (fun i σ H2 => ∃ v2 v3 v4 v5 v6 v7 v8 v9 v10 v11, σ = [some (.ref a), some (.ref tp), v2, v3, v4, v5, v6, v7, v8, v9, v10, v11] ∧ TapeAt H2 tp l)
      ⟨_, _, _, _, _, _, _, _, _, _, rfl, t1⟩ ?_ ?_
    · rintro i σ H2 hi ⟨v2, v3, v4, v5, v6, v7, v8, v9, v10, v11, rfl, t2⟩
      refine ⟨_, rfl, tp, 12, true, rfl, l, t2, by decide, by decide, fun r0 bs0 H3 hb0 ok0 l01 l02 t3 mv3 => ?_⟩
      obtain ⟨xs0, hx0, px0⟩ := hb0
      obtain ⟨ds0, pd0⟩ := at_boards (tp := tp) px0 fun b hb => (ok0 b hb).1
      have l0 : xs0.length = bs0.length := paired_len px0
      refine ⟨_, rfl, tp, 3, rfl, l, t3, by decide, by decide, fun r1 H4 r10 r11 t4 mv4 => ⟨r1, rfl, by omega, by omega, ?_⟩⟩
      refine for_range (lo := 0) (n := r1.toNat) (fun j σ H5 => ∃ r xs ds w4, σ = [some (.ref a), some (.ref tp), some (.int (0 + (i : Int))), some (.ref r), w4, v5, v6, v7, v8, v9, v10, v11] ∧ TapeAt H5 tp l ∧ H5 r = some (.tup xs) ∧ Paired (At tp H5) xs ds ∧ 1 ≤ xs.length ∧ xs.length ≤ 12 + 14 * j)
        ⟨r0, xs0, ds0, _, rfl, t4, (t3.keep mv4).tups _ _ hx0, paired_mono (fun _ _ z => At.tape z t3 mv4) pd0, by omega, by omega⟩ ?_ ?_
      · rintro j σ H5 hj ⟨r, xs, ds, w4, rfl, t5, hr5, p5, l5, l6⟩
        refine ⟨_, rfl, _, _, _, _, true, rfl, .ty _, .base (.tup hr5), kit_ty (a := "tuple") (by decide +kernel), true, rfl, ?_⟩
        refine iteT ⟨_, rfl, r, _, rfl, .inr (SqT.of hr5), _, _, rfl, rfl, _, rfl, ?_⟩
        refine ite2 (fun _ => ?_) (fun z => absurd (decide_eq_true (show (0 : Int) < (xs.length : Int) by omega)) z)
        refine ⟨_, rfl, _, rfl, tp, r, rfl, l, xs, ds, t5, hr5, p5, l5, by omega, fun r6 ys es H6 h6 p6 l7 l8 t6 mv6 => ?_⟩
        exact ⟨r6, ys, es, _, rfl, t6, h6, p6, l7, by omega⟩
      · rintro σ H5 ⟨r, xs, ds, w4, rfl, t5, hr5, p5, l5, l6⟩
        -- another thing
        refine ⟨fun σ H6 => ∃ x d, σ = [some (.ref a), some (.ref tp), some (.int (0 + (i : Int))), some x, w4, v5, v6, v7, v8, v9, v10, v11] ∧ TapeAt H6 tp l ∧ At tp H6 x d, ?_, ?_⟩
        · refine ⟨_, rfl, tp, 12, rfl, l, t5, by decide, by decide, fun r6 H6 _ _ t6 mv6 => ⟨rfl, _, rfl, ?_⟩⟩
          have hr6 := (t5.keep mv6).tups _ _ hr5
          have p6 := paired_mono (fun _ _ z => At.tape z t5 mv6) p5
          refine ite2 (fun _ => ?_) (fun _ => ⟨.ref r, .tuple ds, rfl, t6, .tup hr6 (paired_atAll p6)⟩)
          refine ⟨_, rfl, r, xs, rfl, .inr (SqT.of hr6), fun q1 h1 => ⟨(by show 0 ≤ PySem.sizeLine; decide), fun q2 h2 => fun q3 h3 => ⟨_, rfl, (by show 1 ≤ PySem.sizeLine; decide), fun q4 h4 => ⟨(by show 8 ≤ PySem.sizeLine; decide), fun p hp => ?_⟩⟩⟩⟩
          have ta := t6.same (same_new (o := .lst xs) h1)
          have n1 := t6.new h1
          have s5 := same_new (o := .lst [V.non, V.ref q1, V.ref q2, V.int 0, V.str "hall", V.ref q3, V.ref q4, V.bl true]) hp
          have s4 := (same_new (o := .tup [V.ref r]) h4).trans s5
          have s3 := (same_new (o := .dK []) h3).trans s4
          have s2 := (same_new (o := .tup []) h2).trans s3
          have s1 := (same_new (o := .lst xs) h1).trans s2
          have tb := t6.same s1
          refine ⟨_, rfl, tp, 8, rfl, l, tb, by decide, by decide, fun r7 H7 r70 r71 t7 mv7 => ?_⟩
          have kk := tb.keep mv7
          have np : p ≠ tp := fun e => by
            obtain ⟨_, _, _, _, _, hT, _⟩ := ta
            have z := (((same_new (o := .tup []) h2).trans (same_new (o := .dK []) h3)).trans (same_new (o := .tup [V.ref r]) h4)) _ _ hT
            rw [← e, hp] at z
            cases z
          have e1 : H7 q1 = some (.lst xs) := mv7 _ _ (s2 _ _ upd_same) n1.1
          have e2 : H7 q2 = some (.tup []) := kk.tups _ _ (s3 _ _ upd_same)
          have e3 : H7 q3 = some (.dK []) := kk _ _ (s4 _ _ upd_same) (fun _ e => nomatch e)
          have e4 : H7 q4 = some (.tup [V.ref r]) := kk.tups _ _ (s5 _ _ upd_same)
          have hr7 := kk.tups _ _ (s1 _ _ hr6)
          have p7 : Paired (At tp H7) xs ds := paired_mono (fun _ _ z => At.tape (At.same s1 _ _ z) tb mv7) p6
          obtain ⟨v, hv, mv⟩ := at_ok (xs := [V.non, V.ref q1, V.ref q2, V.int 0, V.str "hall", V.ref q3, V.ref q4, V.bl true]) r70 r71
          obtain ⟨e, he⟩ := at_mem (tp := tp) (H := H7) (.cons .non (.cons (.lst n1.1 e1 (paired_atAll p7)) (.cons (.tup e2 .nil) (.cons (.int 0) (.cons (.str _ (by decide +kernel)) (.cons (.dct e3) (.cons (.tup e4 (.cons (.tup hr7 (paired_atAll p7)) .nil)) (.cons (.bl true) .nil)))))))) mv
          exact ⟨p, _, r7, v, rfl, rfl, SqL.of (mv7 _ _ upd_same np), hv, v, e, rfl, t7, he⟩
        · clear t5 hr5 p5
          rintro σ H6 ⟨x, d, rfl, t6, hA⟩
          refine ⟨_, rfl, x, rfl, tp, d, hA, fun H7 g7 => ?_⟩
          have hA7 := At.same g7 _ _ hA
          have t7 := t6.same g7
          refine ⟨fun σ H8 => TapeAt H8 tp l ∧ At tp H8 x d ∧ ((∃ j w7 w8, dueD d = some j ∧ σ = [some (.ref a), some (.ref tp), some (.int (0 + (i : Int))), some x, w4, some (optV (dueD d)), some (.int j), w7, w8, v9, v10, v11]) ∨
            ∃ y a' w8, dueD d = none ∧ σ = [some (.ref a), some (.ref tp), some (.int (0 + (i : Int))), some x, w4, some (optV (dueD d)), some .non, some (.ref y), w8, v9, v10, v11] ∧ x = .ref a' ∧ BoardsAt H8 a' (bdsOf d) ∧ (∀ b ∈ bdsOf d, okB b) ∧ 1 ≤ (bdsOf d).length ∧ (bdsOf d).length ≤ 12 ∧ HallIs K H8 y a' (bdsOf d)), ?_, ?_⟩
          · refine ⟨_, rfl, fun y dx hy hdx ne => ?_⟩
            have gx : Same H7 (upd (upd H7 dx (.own y)) y (.ins C dx [])) := fun c o ho => by
              rw [upd_ne (ne_of_none ho hy), upd_ne (ne_of_none ho hdx)]
              exact ho
            refine ⟨y, dx, x, tp, d, rfl, upd_same, At.same gx _ _ hA7, fun j hj dd H8 hdd g8 => ?_, fun hn H8 a' ex hb okb lb1 lb2 hi kp => ⟨rfl, ?_⟩⟩
            · refine ⟨true, B_BadHall.ex, fun _ a0 ha0 => ?_, fun z => Bool.noConfusion z⟩
              have g := gx.trans g8
              refine ⟨_, rfl, rfl, rfl, dd, _, _, rfl, hdd, (by simp [List.lookup]; exact rfl), ?_⟩
              exact ⟨t7.same g, At.same g _ _ hA7, .inl ⟨j, _, _, hj, rfl⟩⟩
            · have g : Same H7 H8 := fun b o ho => kp b o (gx b o ho) (ne_of_none ho hy)
              exact ⟨t7.same g, At.same g _ _ hA7, .inr ⟨y, a', _, hn, rfl, ex, hb, okb, lb1, lb2, hi⟩⟩
          · clear hA7 t7 g7 hA t6
            rintro σ H8 ⟨t8, hA8, ⟨j, w7, w8, hj, rfl⟩ | ⟨y, a', w8, hn, rfl, rfl, hb, okb, lb1, lb2, hi⟩⟩
            · rw [hj]
              refine ⟨_, rfl, _, rfl, rfl, _, rfl, ?_⟩
              refine iteN (nt (not_of rfl)) ?_
              refine ⟨_, rfl, _, _, _, _, false, rfl, .ty _, .base (.int j), is_int_bool, false, rfl, ?_⟩
              refine iteF ?_
              refine ⟨_, rfl, rfl, _, rfl, ?_⟩
              exact iteN (nt (decide_eq_false fun e => nomatch e)) ⟨_, _, _, _, _, _, _, _, _, _, rfl, t8⟩
            · rw [hn]
              refine ⟨_, rfl, _, rfl, rfl, _, rfl, ?_⟩
              refine iteN (nt (not_of rfl)) ?_
              refine ⟨_, rfl, _, _, _, _, false, rfl, .ty _, .base .non, kit_ty (a := "NoneType") (b := "bool") (by decide +kernel), false, rfl, ?_⟩
              refine iteF ?_
              refine ⟨_, rfl, rfl, _, rfl, ?_⟩
              refine iteP (decide_eq_true rfl) ?_
              obtain ⟨xs, ha, pr⟩ := hb
              have el : xs.length = (bdsOf d).length := paired_len pr
              refine ⟨_, rfl, a', rfl, ⟨_, SqT.of ha⟩, fun D hD => ?_⟩
              refine lc_tup (K := K) (a := a') (xs := xs) (fun i H9 => H9 D = some (.lst ((((bdsOf d).take i).map (·.1)).map V.str)) ∧ Same H8 H9) ⟨upd_same, same_new hD⟩ (fun i H9 _ z => SqT.of (z.2 _ _ ha)) ?_ ?_
              · rintro i2 x2 H9 hx2 ⟨h9, g9⟩
                obtain ⟨b, hb2, c, r2, rfl, hc, _⟩ := paired_at pr i2 x2 hx2
                have hi2 := (List.getElem?_eq_some_iff.mp hx2).1
                refine ⟨rfl, ?_⟩
                refine ⟨_, rfl, c, _, 0, .str b.1, rfl, rfl, SqT.of (g9 _ _ hc), rfl, _, h9, ?_, ?_, same_mut g9 hD⟩
                · rw [List.length_map, List.length_map, List.length_take]
                  have b1 : (1000 : Nat) < PySem.sizeLine := by decide
                  omega
                · rw [upd_same, take_one hb2, List.map_append, List.map_append]
                  rfl
              · rintro H9 ⟨h9, g9⟩
                rw [el, List.take_length] at h9
                refine ⟨D, (bdsOf d).map (·.1), rfl, SqL.of h9, by rw [List.length_map]; omega, fun zs p pm up hp => ?_⟩
                have g10 := g9.trans (same_new (o := .lst (zs.map V.str)) hp)
                have hz : upd H9 p (.lst (zs.map V.str)) p = some (.lst (zs.map V.str)) := upd_same
                have lz : zs.length = (bdsOf d).length := by rw [pm.length_eq, List.length_map]
                generalize upd H9 p (.lst (zs.map V.str)) = H10 at g10 hz
                refine ⟨_, rfl, p, _, rfl, .inl (SqL.of hz), _, rfl, by rw [List.length_map]; omega, by rw [List.length_map]; omega, fun D2 hD2 => ?_⟩
                refine lc_range (lo := 0) (fun i H11 => H11 D2 = some (.lst ((onceUp zs i).map V.str)) ∧ Same H10 H11) ⟨upd_same, same_new hD2⟩ ?_ ?_
                · rintro i2 H11 hi2 ⟨h11, g11⟩
                  rw [List.length_map] at hi2
                  have at_ : atI (zs.map V.str) (0 + (i2 : Int)) = some (V.str (zs.getD i2 Str.empty)) := by
                    rw [Int.zero_add]
                    refine atI_nat ?_
                    rw [List.getElem?_map, List.getD_eq_getElem?_getD, List.getElem?_eq_getElem (by omega)]
                    rfl
                  have put : (i2 = 0 ∨ zs.getD i2 Str.empty ≠ zs.getD (i2 - 1) Str.empty) → ∃ acc, H11 D2 = some (.lst acc) ∧ acc.length < PySem.sizeLine ∧ upd H11 D2 (.lst (acc ++ [V.str (zs.getD i2 Str.empty)])) D2 = some (.lst ((onceUp zs (i2 + 1)).map V.str)) ∧ Same H10 (upd H11 D2 (.lst (acc ++ [V.str (zs.getD i2 Str.empty)]))) := fun c => by
                    refine ⟨_, h11, ?_, ?_, same_mut g11 hD2⟩
                    · rw [List.length_map]
                      have b1 : (1000 : Nat) < PySem.sizeLine := by decide
                      have := once_len zs i2
                      omega
                    · rw [upd_same]
                      show _ = some (HO.lst ((onceUp zs i2 ++ (if i2 = 0 ∨ zs.getD i2 Str.empty ≠ zs.getD (i2 - 1) Str.empty then [zs.getD i2 Str.empty] else [])).map V.str))
                      rw [if_pos c, List.map_append]
                      rfl
                  refine ⟨rfl, ?_⟩
                  refine ⟨_, rfl, rfl, _, rfl, ?_⟩
                  rw [decI]
                  refine ite2 (fun z => ?_) (fun z => ?_)
                  · have z0 : i2 = 0 := by
                      have := of_decide_eq_true z
                      omega
                    refine iteT ⟨_, rfl, _, rfl, p, _, _, _, rfl, rfl, SqL.of (g11 _ _ hz), at_, put (.inl z0)⟩
                  · have z0 : i2 ≠ 0 := by
                      have := of_decide_eq_false (Bool.eq_false_iff.mpr z)
                      omega
                    have at2 : atI (zs.map V.str) (0 + (i2 : Int) - 1) = some (V.str (zs.getD (i2 - 1) Str.empty)) := by
                      rw [show (0 + (i2 : Int) - 1) = ((i2 - 1 : Nat) : Int) by omega]
                      refine atI_nat ?_
                      rw [List.getElem?_map, List.getD_eq_getElem?_getD, List.getElem?_eq_getElem (by omega)]
                      rfl
                    refine ⟨_, rfl, _, rfl, p, _, _, _, rfl, rfl, SqL.of (g11 _ _ hz), at_, _, rfl, _, rfl, _, _, rfl, rfl, p, _, _, _, rfl, rfl, SqL.of (g11 _ _ hz), at2, rfl, _, rfl, ?_⟩
                    rw [decS]
                    refine ite2 (fun z2 => ?_) (fun z2 => ?_)
                    · refine ⟨_, rfl, _, rfl, p, _, _, _, rfl, rfl, SqL.of (g11 _ _ hz), at_, put (.inr fun e => ?_)⟩
                      rw [decide_eq_true e] at z2
                      cases z2
                    · refine ⟨?_, g11⟩
                      have e : zs.getD i2 Str.empty = zs.getD (i2 - 1) Str.empty := by
                        cases c : decide (zs.getD i2 Str.empty = zs.getD (i2 - 1) Str.empty) with
                        | true => exact of_decide_eq_true c
                        | false =>
                          rw [c] at z2
                          exact absurd rfl z2
                      rw [h11]
                      show _ = some (HO.lst ((onceUp zs i2 ++ (if i2 = 0 ∨ zs.getD i2 Str.empty ≠ zs.getD (i2 - 1) Str.empty then [zs.getD i2 Str.empty] else [])).map V.str))
                      rw [if_neg (fun w => w.elim z0 (fun w => w e)), List.append_nil]
                · rintro H11 ⟨h11, g11⟩
                  rw [List.length_map, Int.toNat_natCast] at h11
                  obtain ⟨C', dx', fs', n', ys, cl, nB, nN, hy, fb, fn, hbs, hny, nm⟩ := hi
                  rw [once_names up pm nm] at h11
                  refine ⟨D2, _, rfl, .inl ⟨SqL.of h11, fun pn hpn => ?_⟩⟩
                  have g12 := (g10.trans g11).trans (same_new (o := .tup (ys.map V.str)) hpn)
                  have lys : ys.length ≤ 12 := by
                    have := once_len zs zs.length
                    rw [once_names up pm nm] at this
                    omega
                  have okn : ∀ z ∈ ys, z.length ≤ 1000 := fun z hz => by
                    obtain ⟨b, hb, rfl⟩ := List.mem_map.mp ((nm.mem z).mp hz)
                    exact (okb b hb).2.1
                  have hA12 := At.same g12 _ _ hA8
                  refine ⟨_, rfl, y, C', dx', fs', _, rfl, g12 _ _ hy, cl, nB, fb, _, rfl, .ref a', .ref a', rfl, tp, d, hA12, hA12, plain_due hn, fun H13 g13 => ⟨_, rfl, ?_⟩⟩
                  refine iteN (nt rfl) ?_
                  have g1213 := g12.trans g13
                  refine ⟨_, rfl, y, C', dx', fs', _, rfl, g1213 _ _ hy, cl, nN, fn, _, rfl, .ref n', .ref pn, rfl, tp, .tuple (ys.map .str), .tup (g1213 _ _ hny) (at_strs ys okn), .tup (g13 _ _ upd_same) (at_strs ys okn), ?_, fun H14 g14 => ⟨_, rfl, ?_⟩⟩
                  · refine .inr ⟨_, rfl, by rw [List.length_map]; omega, fun e he => ?_⟩
                    obtain ⟨z, _, rfl⟩ := List.mem_map.mp he
                    exact .inl (.inr ⟨z, rfl⟩)
                  · exact iteN (nt rfl) ⟨_, _, _, _, _, _, _, _, _, _, rfl, t8.same (g1213.trans g14)⟩
    · rintro σ H2 ⟨v2, v3, v4, v5, v6, v7, v8, v9, v10, v11, rfl, t2⟩
      exact q H2
end
end K11
namespace K11
open PySem L2 Nm
theorem exm_of {K : PySem.W.Frag} {S : Addr} (h1 : PySem.W.subIn K (.ref S) (.type "BaseException") = some true) (h2 : PySem.W.isClsIn K S = true) (h3 : PySem.W.typeIn K (.ref S) = some (.type "type")) (h4 : PySem.W.subIn K (.ref S) (.ref S) = some true) : PySem.W.exmOne K (.ref S) (.ref S) = some true := by
  have h2' : (PySem.W.clsIn K S).isSome = true := h2
  simp [PySem.W.exmOne, PySem.W.kitCls, h1, h2', h3, h4]
theorem all_mk {l : PySem.W.OpenLaw} {w : World} {K : PySem.W.Frag} {h : Heap} {mg : Str → Option Value} {fa CBadHall CHall f1 f2 f3 f4 f5 f6 f7 f8 f9 f10 f11 f12 f13 f14 f15 f16 f17 f18 f19 f20 f21 f22 f23 f24 : Addr} (X : K.In h) (G : h.Ns mainGlobals mg) (hfa : mg "law" = some (.ref fa))
    {od1 an1 od2 an2 od3 an3 od4 an4 od5 an5 od6 an6 od7 an7 od8 an8 od9 an9 od10 an10 od11 an11 od12 an12 od13 an13 od14 an14 od15 an15 od16 an16 od17 an17 od18 an18 od19 an19 od20 an20 od21 an21 od22 an22 od23 an23 od24 an24 : Option Addr} {sl1 sl2 sl3 sl4 sl5 sl6 sl7 sl8 sl9 sl10 sl11 sl12 sl13 sl14 sl15 sl16 sl17 sl18 sl19 sl20 sl21 sl22 sl23 sl24 : Array (Option Value)} {oc1 kV1 dc1 pm1 cd1 ct1 oc2 kV2 dc2 pm2 cd2 ct2 oc3 kV3 dc3 pm3 cd3 ct3 oc4 kV4 dc4 pm4 cd4 ct4 oc5 kV5 dc5 pm5 cd5 ct5 oc6 kV6 dc6 pm6 cd6 ct6 oc7 kV7 dc7 pm7 cd7 ct7 oc8 kV8 dc8 pm8 cd8 ct8 oc9 kV9 dc9 pm9 cd9 ct9 oc10 kV10 dc10 pm10 cd10 ct10 oc11 kV11 dc11 pm11 cd11 ct11 oc12 kV12 dc12 pm12 cd12 ct12 oc13 kV13 dc13 pm13 cd13 ct13 oc14 kV14 dc14 pm14 cd14 ct14 oc15 kV15 dc15 pm15 cd15 ct15 oc16 kV16 dc16 pm16 cd16 ct16 oc17 kV17 dc17 pm17 cd17 ct17 oc18 kV18 dc18 pm18 cd18 ct18 oc19 kV19 dc19 pm19 cd19 ct19 oc20 kV20 dc20 pm20 cd20 ct20 oc21 kV21 dc21 pm21 cd21 ct21 oc22 kV22 dc22 pm22 cd22 ct22 oc23 kV23 dc23 pm23 cd23 ct23 oc24 kV24 dc24 pm24 cd24 ct24 : Value} {tMOST_BEGUN tMOST_BOARDS : Tok} {enmBadHall eqBadHall : Str} {eNBadHall : Addr} {ebsBadHall ebmBadHall : List Value} {esnBadHall : List Str} {esubBadHall : List Value} {eabBadHall : Bool} {ecolBadHall : Option Bool} {eddBadHall : Option Addr} {em0BadHall em1BadHall em2BadHall em3BadHall em5BadHall : Option Value}
    (a_BadHall : PySem.W.nsIn K mainGlobals "BadHall" = some (some (.ref CBadHall)))
    (a_Hall : PySem.W.nsIn K mainGlobals "Hall" = some (some (.ref CHall)))
    (a1 : PySem.W.nsIn K mainGlobals "is_integer" = some (some (.ref f1)))
    (l1 : K.lookup f1 = some ⟨oc1, od1, .func (PySem.W.fnOf "is_integer" "is_integer" (defArgs s_is_integer) (defBody s_is_integer) (defScope s_is_integer) .none kV1 dc1 pm1 an1 cd1 ct1), sl1⟩)
    (c1 : PySem.W.codeIn K cd1 "is_integer" = true)
    (k1 : PySem.W.keepIn K (.ref f1) = true)
    (a2 : PySem.W.nsIn K mainGlobals "is_within" = some (some (.ref f2)))
    (l2 : K.lookup f2 = some ⟨oc2, od2, .func (PySem.W.fnOf "is_within" "is_within" (defArgs s_is_within) (defBody s_is_within) (defScope s_is_within) .none kV2 dc2 pm2 an2 cd2 ct2), sl2⟩)
    (c2 : PySem.W.codeIn K cd2 "is_within" = true)
    (k2 : PySem.W.keepIn K (.ref f2) = true)
    (a3 : PySem.W.nsIn K mainGlobals "is_side" = some (some (.ref f3)))
    (l3 : K.lookup f3 = some ⟨oc3, od3, .func (PySem.W.fnOf "is_side" "is_side" (defArgs s_is_side) (defBody s_is_side) (defScope s_is_side) .none kV3 dc3 pm3 an3 cd3 ct3), sl3⟩)
    (c3 : PySem.W.codeIn K cd3 "is_side" = true)
    (k3 : PySem.W.keepIn K (.ref f3) = true)
    (a4 : PySem.W.nsIn K mainGlobals "is_lettered" = some (some (.ref f4)))
    (l4 : K.lookup f4 = some ⟨oc4, od4, .func (PySem.W.fnOf "is_lettered" "is_lettered" (defArgs s_is_lettered) (defBody s_is_lettered) (defScope s_is_lettered) .none kV4 dc4 pm4 an4 cd4 ct4), sl4⟩)
    (c4 : PySem.W.codeIn K cd4 "is_lettered" = true)
    (k4 : PySem.W.keepIn K (.ref f4) = true)
    (a5 : PySem.W.nsIn K mainGlobals "is_name" = some (some (.ref f5)))
    (l5 : K.lookup f5 = some ⟨oc5, od5, .func (PySem.W.fnOf "is_name" "is_name" (defArgs s_is_name) (defBody s_is_name) (defScope s_is_name) .none kV5 dc5 pm5 an5 cd5 ct5), sl5⟩)
    (c5 : PySem.W.codeIn K cd5 "is_name" = true)
    (k5 : PySem.W.keepIn K (.ref f5) = true)
    (a6 : PySem.W.nsIn K mainGlobals "is_word" = some (some (.ref f6)))
    (l6 : K.lookup f6 = some ⟨oc6, od6, .func (PySem.W.fnOf "is_word" "is_word" (defArgs s_is_word) (defBody s_is_word) (defScope s_is_word) .none kV6 dc6 pm6 an6 cd6 ct6), sl6⟩)
    (c6 : PySem.W.codeIn K cd6 "is_word" = true)
    (k6 : PySem.W.keepIn K (.ref f6) = true)
    (a7 : PySem.W.nsIn K mainGlobals "is_words" = some (some (.ref f7)))
    (l7 : K.lookup f7 = some ⟨oc7, od7, .func (PySem.W.fnOf "is_words" "is_words" (defArgs s_is_words) (defBody s_is_words) (defScope s_is_words) .none kV7 dc7 pm7 an7 cd7 ct7), sl7⟩)
    (c7 : PySem.W.codeIn K cd7 "is_words" = true)
    (k7 : PySem.W.keepIn K (.ref f7) = true)
    (a8 : PySem.W.nsIn K mainGlobals "is_board" = some (some (.ref f8)))
    (l8 : K.lookup f8 = some ⟨oc8, od8, .func (PySem.W.fnOf "is_board" "is_board" (defArgs s_is_board) (defBody s_is_board) (defScope s_is_board) .none kV8 dc8 pm8 an8 cd8 ct8), sl8⟩)
    (c8 : PySem.W.codeIn K cd8 "is_board" = true)
    (k8 : PySem.W.keepIn K (.ref f8) = true)
    (a9 : PySem.W.nsIn K mainGlobals "names_of" = some (some (.ref f9)))
    (l9 : K.lookup f9 = some ⟨oc9, od9, .func (PySem.W.fnOf "names_of" "names_of" (defArgs s_names_of) (defBody s_names_of) (defScope s_names_of) .none kV9 dc9 pm9 an9 cd9 ct9), sl9⟩)
    (c9 : PySem.W.codeIn K cd9 "names_of" = true)
    (k9 : PySem.W.keepIn K (.ref f9) = true)
    (a10 : PySem.W.nsIn K mainGlobals "_law_tape" = some (some (.ref f10)))
    (l10 : K.lookup f10 = some ⟨oc10, od10, .func (PySem.W.fnOf "_law_tape" "_law_tape" (defArgs s__law_tape) (defBody s__law_tape) (defScope s__law_tape) .none kV10 dc10 pm10 an10 cd10 ct10), sl10⟩)
    (c10 : PySem.W.codeIn K cd10 "_law_tape" = true)
    (k10 : PySem.W.keepIn K (.ref f10) = true)
    (a11 : PySem.W.nsIn K mainGlobals "_law_pick" = some (some (.ref f11)))
    (l11 : K.lookup f11 = some ⟨oc11, od11, .func (PySem.W.fnOf "_law_pick" "_law_pick" (defArgs s__law_pick) (defBody s__law_pick) (defScope s__law_pick) .none kV11 dc11 pm11 an11 cd11 ct11), sl11⟩)
    (c11 : PySem.W.codeIn K cd11 "_law_pick" = true)
    (k11 : PySem.W.keepIn K (.ref f11) = true)
    (a12 : PySem.W.nsIn K mainGlobals "_law_some" = some (some (.ref f12)))
    (l12 : K.lookup f12 = some ⟨oc12, od12, .func (PySem.W.fnOf "_law_some" "_law_some" (defArgs s__law_some) (defBody s__law_some) (defScope s__law_some) .none kV12 dc12 pm12 an12 cd12 ct12), sl12⟩)
    (c12 : PySem.W.codeIn K cd12 "_law_some" = true)
    (k12 : PySem.W.keepIn K (.ref f12) = true)
    (a13 : PySem.W.nsIn K mainGlobals "_law_word" = some (some (.ref f13)))
    (l13 : K.lookup f13 = some ⟨oc13, od13, .func (PySem.W.fnOf "_law_word" "_law_word" (defArgs s__law_word) (defBody s__law_word) (defScope s__law_word) .none kV13 dc13 pm13 an13 cd13 ct13), sl13⟩)
    (c13 : PySem.W.codeIn K cd13 "_law_word" = true)
    (k13 : PySem.W.keepIn K (.ref f13) = true)
    (a14 : PySem.W.nsIn K mainGlobals "_law_line" = some (some (.ref f14)))
    (l14 : K.lookup f14 = some ⟨oc14, od14, .func (PySem.W.fnOf "_law_line" "_law_line" (defArgs s__law_line) (defBody s__law_line) (defScope s__law_line) .none kV14 dc14 pm14 an14 cd14 ct14), sl14⟩)
    (c14 : PySem.W.codeIn K cd14 "_law_line" = true)
    (k14 : PySem.W.keepIn K (.ref f14) = true)
    (a15 : PySem.W.nsIn K mainGlobals "_law_boards" = some (some (.ref f15)))
    (l15 : K.lookup f15 = some ⟨oc15, od15, .func (PySem.W.fnOf "_law_boards" "_law_boards" (defArgs s__law_boards) (defBody s__law_boards) (defScope s__law_boards) .none kV15 dc15 pm15 an15 cd15 ct15), sl15⟩)
    (c15 : PySem.W.codeIn K cd15 "_law_boards" = true)
    (k15 : PySem.W.keepIn K (.ref f15) = true)
    (a16 : PySem.W.findIn K (.ref CBadHall) "__init__" = some (some (.ref f16)))
    (i16 : PySem.W.isFn K (.ref f16) = true)
    (l16 : K.lookup f16 = some ⟨oc16, od16, .func (PySem.W.fnOf "__init__" "BadHall.__init__" (defArgs s_BadHall___init__) (defBody s_BadHall___init__) (defScope s_BadHall___init__) .none kV16 dc16 pm16 an16 cd16 ct16), sl16⟩)
    (c16 : PySem.W.codeIn K cd16 "BadHall.__init__" = true)
    (k16 : PySem.W.keepIn K (.ref f16) = true)
    (a17 : PySem.W.findIn K (.ref CHall) "__init__" = some (some (.ref f17)))
    (i17 : PySem.W.isFn K (.ref f17) = true)
    (l17 : K.lookup f17 = some ⟨oc17, od17, .func (PySem.W.fnOf "__init__" "Hall.__init__" (defArgs s_Hall___init__) (defBody s_Hall___init__) (defScope s_Hall___init__) .none kV17 dc17 pm17 an17 cd17 ct17), sl17⟩)
    (c17 : PySem.W.codeIn K cd17 "Hall.__init__" = true)
    (k17 : PySem.W.keepIn K (.ref f17) = true)
    (a18 : PySem.W.nsIn K mainGlobals "_law_int" = some (some (.ref f18)))
    (l18 : K.lookup f18 = some ⟨oc18, od18, .func (PySem.W.fnOf "_law_int" "_law_int" (defArgs s__law_int) (defBody s__law_int) (defScope s__law_int) .none kV18 dc18 pm18 an18 cd18 ct18), sl18⟩)
    (c18 : PySem.W.codeIn K cd18 "_law_int" = true)
    (k18 : PySem.W.keepIn K (.ref f18) = true)
    (a19 : PySem.W.nsIn K mainGlobals "_law_is_word" = some (some (.ref f19)))
    (l19 : K.lookup f19 = some ⟨oc19, od19, .func (PySem.W.fnOf "_law_is_word" "_law_is_word" (defArgs s__law_is_word) (defBody s__law_is_word) (defScope s__law_is_word) .none kV19 dc19 pm19 an19 cd19 ct19), sl19⟩)
    (c19 : PySem.W.codeIn K cd19 "_law_is_word" = true)
    (k19 : PySem.W.keepIn K (.ref f19) = true)
    (a20 : PySem.W.nsIn K mainGlobals "_law_is_row" = some (some (.ref f20)))
    (l20 : K.lookup f20 = some ⟨oc20, od20, .func (PySem.W.fnOf "_law_is_row" "_law_is_row" (defArgs s__law_is_row) (defBody s__law_is_row) (defScope s__law_is_row) .none kV20 dc20 pm20 an20 cd20 ct20), sl20⟩)
    (c20 : PySem.W.codeIn K cd20 "_law_is_row" = true)
    (k20 : PySem.W.keepIn K (.ref f20) = true)
    (a21 : PySem.W.nsIn K mainGlobals "_law_due" = some (some (.ref f21)))
    (l21 : K.lookup f21 = some ⟨oc21, od21, .func (PySem.W.fnOf "_law_due" "_law_due" (defArgs s__law_due) (defBody s__law_due) (defScope s__law_due) .none kV21 dc21 pm21 an21 cd21 ct21), sl21⟩)
    (c21 : PySem.W.codeIn K cd21 "_law_due" = true)
    (k21 : PySem.W.keepIn K (.ref f21) = true)
    (a22 : PySem.W.nsIn K mainGlobals "_law_bent" = some (some (.ref f22)))
    (l22 : K.lookup f22 = some ⟨oc22, od22, .func (PySem.W.fnOf "_law_bent" "_law_bent" (defArgs s__law_bent) (defBody s__law_bent) (defScope s__law_bent) .none kV22 dc22 pm22 an22 cd22 ct22), sl22⟩)
    (c22 : PySem.W.codeIn K cd22 "_law_bent" = true)
    (k22 : PySem.W.keepIn K (.ref f22) = true)
    (a23 : PySem.W.nsIn K mainGlobals "_law_is" = some (some (.ref f23)))
    (l23 : K.lookup f23 = some ⟨oc23, od23, .func (PySem.W.fnOf "_law_is" "_law_is" (defArgs s__law_is) (defBody s__law_is) (defScope s__law_is) .none kV23 dc23 pm23 an23 cd23 ct23), sl23⟩)
    (c23 : PySem.W.codeIn K cd23 "_law_is" = true)
    (k23 : PySem.W.keepIn K (.ref f23) = true)
    (a24 : PySem.W.nsIn K mainGlobals "law" = some (some (.ref f24)))
    (l24 : K.lookup f24 = some ⟨oc24, od24, .func (PySem.W.fnOf "law" "law" (defArgs s_law) (defBody s_law) (defScope s_law) .none kV24 dc24 pm24 an24 cd24 ct24), sl24⟩)
    (c24 : PySem.W.codeIn K cd24 "law" = true)
    (k24 : PySem.W.keepIn K (.ref f24) = true)
    (xL_BadHall : K.lookup CBadHall = some (excClassObj enmBadHall eqBadHall CBadHall eNBadHall ebsBadHall ebmBadHall true esnBadHall esubBadHall eabBadHall ecolBadHall eddBadHall em0BadHall em1BadHall em2BadHall em3BadHall em5BadHall "ValueError.__new__"))
    (rv_BadHall : PySem.HandSPX.refsVE ebmBadHall = true)
    (sa_BadHall : PySem.W.findIn K (.ref CBadHall) "__setattr__" = some (some (.builtin "object.__setattr__")))
    (eC_BadHall : PySem.W.subIn K (.ref CBadHall) (.type "BaseException") = some true)
    (tC_BadHall : PySem.W.typeIn K (.ref CBadHall) = some (.type "type"))
    (kc_BadHall : PySem.W.keepIn K (.ref CBadHall) = true)
    (tI_BadHall : PySem.W.typeIn K (.ref f16) = some (.type "function"))
    (ga_BadHall : PySem.W.findIn K (.ref CBadHall) "__getattribute__" = some (some (.builtin "BaseException.__getattribute__")))
    (gg_BadHall : PySem.W.findIn K (.ref CBadHall) "__getattr__" = some none)
    (hd_BadHall : PySem.W.hasDictIn K CBadHall = true)
    (iS_BadHall : PySem.W.isClsIn K CBadHall = true)
    (sS_BadHall : PySem.W.subIn K (.ref CBadHall) (.ref CBadHall) = some true)
    (n_BadHall_at : PySem.W.findIn K (.ref CBadHall) "at" = some none)
    (pg_Hall : PySem.W.plainGet K CHall Str.empty = true)
    (hd_Hall : PySem.W.hasDictIn K CHall = true)
    (po_Hall : PySem.W.plainOver K CHall = true)
    (sa_Hall : PySem.W.findIn K (.ref CHall) "__setattr__" = some (some (.builtin "object.__setattr__")))
    (mk_Hall : PySem.W.makesIn K CHall = true)
    (kc_Hall : PySem.W.keepIn K (.ref CHall) = true)
    (n_Hall_boards : PySem.W.findIn K (.ref CHall) "boards" = some none)
    (n_Hall_names : PySem.W.findIn K (.ref CHall) "names" = some none)
    (z_all : PySem.W.nsIn K mainGlobals "all" = some none)
    (z_bool : PySem.W.nsIn K mainGlobals "bool" = some none)
    (z_enumerate : PySem.W.nsIn K mainGlobals "enumerate" = some none)
    (z_int : PySem.W.nsIn K mainGlobals "int" = some none)
    (z_isinstance : PySem.W.nsIn K mainGlobals "isinstance" = some none)
    (z_len : PySem.W.nsIn K mainGlobals "len" = some none)
    (z_list : PySem.W.nsIn K mainGlobals "list" = some none)
    (z_max : PySem.W.nsIn K mainGlobals "max" = some none)
    (z_range : PySem.W.nsIn K mainGlobals "range" = some none)
    (z_sorted : PySem.W.nsIn K mainGlobals "sorted" = some none)
    (z_str : PySem.W.nsIn K mainGlobals "str" = some none)
    (z_tuple : PySem.W.nsIn K mainGlobals "tuple" = some none)
    (z_zip : PySem.W.nsIn K mainGlobals "zip" = some none)
    (g_MOST_BEGUN : PySem.W.nsIn K mainGlobals "MOST_BEGUN" = some (some (.int 20 tMOST_BEGUN)))
    (g_MOST_BOARDS : PySem.W.nsIn K mainGlobals "MOST_BOARDS" = some (some (.int 12 tMOST_BOARDS))) :
    ∃ fd : FuncData, (∀ (s : Shared) (v : Value), BindsTo s fd ⟨[v], []⟩ [("script", v)]) ∧ ∀ base : Heap, K.In base → base.Ns mainGlobals mg → FnOk l.prog w K mg base CX0 20 fa fd ["script"] (sp_law K) := by
  have e := hfa.symm.trans (PySem.W.mg_of X G a24)
  cases e
  have F1 := fun_mk (st := s_is_integer) l1 c1 k1
  have F2 := fun_mk (st := s_is_within) l2 c2 k2
  have F3 := fun_mk (st := s_is_side) l3 c3 k3
  have F4 := fun_mk (st := s_is_lettered) l4 c4 k4
  have F5 := fun_mk (st := s_is_name) l5 c5 k5
  have F6 := fun_mk (st := s_is_word) l6 c6 k6
  have F7 := fun_mk (st := s_is_words) l7 c7 k7
  have F8 := fun_mk (st := s_is_board) l8 c8 k8
  have F9 := fun_mk (st := s_names_of) l9 c9 k9
  have F10 := fun_mk (st := s__law_tape) l10 c10 k10
  have F11 := fun_mk (st := s__law_pick) l11 c11 k11
  have F12 := fun_mk (st := s__law_some) l12 c12 k12
  have F13 := fun_mk (st := s__law_word) l13 c13 k13
  have F14 := fun_mk (st := s__law_line) l14 c14 k14
  have F15 := fun_mk (st := s__law_boards) l15 c15 k15
  have F16 := fun_mk (st := s_BadHall___init__) l16 c16 k16
  have F17 := fun_mk (st := s_Hall___init__) l17 c17 k17
  have F18 := fun_mk (st := s__law_int) l18 c18 k18
  have F19 := fun_mk (st := s__law_is_word) l19 c19 k19
  have F20 := fun_mk (st := s__law_is_row) l20 c20 k20
  have F21 := fun_mk (st := s__law_due) l21 c21 k21
  have F22 := fun_mk (st := s__law_bent) l22 c22 k22
  have F23 := fun_mk (st := s__law_is) l23 c23 k23
  have F24 := fun_mk (st := s_law) l24 c24 k24
  have T : Txt K mg := ⟨⟨_, _, F1, PySem.W.mg_of X G a1⟩,
    ⟨_, _, F2, PySem.W.mg_of X G a2⟩,
    ⟨_, _, F3, PySem.W.mg_of X G a3⟩,
    ⟨_, _, F4, PySem.W.mg_of X G a4⟩,
    ⟨_, _, F5, PySem.W.mg_of X G a5⟩,
    ⟨_, _, F6, PySem.W.mg_of X G a6⟩,
    ⟨_, _, F7, PySem.W.mg_of X G a7⟩,
    ⟨_, _, F8, PySem.W.mg_of X G a8⟩,
    ⟨_, _, F9, PySem.W.mg_of X G a9⟩,
    ⟨_, _, F10, PySem.W.mg_of X G a10⟩,
    ⟨_, _, F11, PySem.W.mg_of X G a11⟩,
    ⟨_, _, F12, PySem.W.mg_of X G a12⟩,
    ⟨_, _, F13, PySem.W.mg_of X G a13⟩,
    ⟨_, _, F14, PySem.W.mg_of X G a14⟩,
    ⟨_, _, F15, PySem.W.mg_of X G a15⟩,
    ⟨_, _, F18, PySem.W.mg_of X G a18⟩,
    ⟨_, _, F19, PySem.W.mg_of X G a19⟩,
    ⟨_, _, F20, PySem.W.mg_of X G a20⟩,
    ⟨_, _, F21, PySem.W.mg_of X G a21⟩,
    ⟨_, _, F22, PySem.W.mg_of X G a22⟩,
    ⟨_, _, F23, PySem.W.mg_of X G a23⟩,
    ⟨_, _, F24, PySem.W.mg_of X G a24⟩,
    PySem.W.mg_none_of X G z_all,
    PySem.W.mg_none_of X G z_bool,
    PySem.W.mg_none_of X G z_enumerate,
    PySem.W.mg_none_of X G z_int,
    PySem.W.mg_none_of X G z_isinstance,
    PySem.W.mg_none_of X G z_len,
    PySem.W.mg_none_of X G z_list,
    PySem.W.mg_none_of X G z_max,
    PySem.W.mg_none_of X G z_range,
    PySem.W.mg_none_of X G z_sorted,
    PySem.W.mg_none_of X G z_str,
    PySem.W.mg_none_of X G z_tuple,
    PySem.W.mg_none_of X G z_zip,
    ⟨_, PySem.W.mg_of X G g_MOST_BEGUN, ⟨_, rfl⟩⟩,
    ⟨_, PySem.W.mg_of X G g_MOST_BOARDS, ⟨_, rfl⟩⟩,
    ⟨_, _, _, { hm := PySem.W.mg_of X G a_BadHall, ox := { cls := ⟨_, _, _, _, _, _, _, _, _, _, _, _, _, _, _, xL_BadHall, rv_BadHall⟩, sa := sa_BadHall, exC := eC_BadHall, tyC := tC_BadHall, kC := kc_BadHall }, iC := a16, tI := tI_BadHall, no := n_BadHall_at, xf := ⟨ga_BadHall, gg_BadHall, eC_BadHall, hd_BadHall⟩, ex := exm_of eC_BadHall iS_BadHall tC_BadHall sS_BadHall, fn := F16 }⟩,
    ⟨_, _, _, ⟨pg_Hall, hd_Hall, po_Hall, sa_Hall⟩, ⟨mk_Hall, a17, i17, kc_Hall⟩, PySem.W.mg_of X G a_Hall, F17, n_Hall_boards, n_Hall_names⟩⟩
  exact ⟨PySem.W.fnOf "law" "law" (defArgs s_law) (defBody s_law) (defScope s_law) .none kV24 dc24 pm24 an24 cd24 ct24, fun s v => .of_eq rfl, fun base _ _ => ok_law F24 T⟩
theorem walk {l : PySem.W.OpenLaw} {q : Program} {loose : List Str} {XP : (Str → Option Value) → Heap → Prop} {YP : World → Heap → Prop} {d : DefRec} {K : Params → PySem.W.Frag} (hn : l.most = some 63) (hdf : d.params.defaults = [])
    (hY : ∀ (w : World) (h : Heap), YP w h → (K w.params).In h)
    (F : ∀ (w : World) (mg : Str → Option Value) (fa : Addr) (h : Heap), (K w.params).In h → h.Ns mainGlobals mg → mg d.name = some (.ref fa) →
      ∃ fd : FuncData, (∀ (s : Shared) (u : Value), BindsTo s fd ⟨[u], []⟩ [("script", u)]) ∧ ∀ base : Heap, (K w.params).In base → base.Ns mainGlobals mg → FnOk l.prog w (K w.params) mg base CX0 20 fa fd ["script"] (sp_law (K w.params))) :
    PySem.W.WalkO q loose XP YP l.row.toRowW d [] (fun f vs => PySem.call f vs) :=
  L2.walk_of (n := 63) (k := 20) (x := "script") (CX := fun _ => CX0) (sp := fun w => sp_law (K w.params)) hn (by decide) hdf ⟨rfl, by decide, by decide⟩ hY F (fun _ _ a ns hl _ hS => ⟨a, ns, rfl, hS, fun _ => rfl⟩) fun _ _ _ _ _ z => z
end K11
open PySem PySem.W PyProof.Rows
set_option maxRecDepth 100000 in
set_option maxHeartbeats 0 in
theorem PySem.Challenge.cw_untoldgames_k11_halls_judged_holds : PySem.Challenge.rw_untoldgames_k11_halls_judged.Holds := by
  w_on; o_law; k_head; (case hw => w_witness2)
  k_fill
  refine K11.walk (l := PySem.Challenge.rw_untoldgames_k11_halls_judged) rfl rfl (fun w h Y => PySem.W.kIn_of Y) ?F
  case F =>
    intro w mg fa h KX G hmg
    refine' K11.all_mk KX G hmg ?a_BadHall ?a_Hall ?a1 ?l1 ?c1 ?k1 ?a2 ?l2 ?c2 ?k2 ?a3 ?l3 ?c3 ?k3 ?a4 ?l4 ?c4 ?k4 ?a5 ?l5 ?c5 ?k5 ?a6 ?l6 ?c6 ?k6 ?a7 ?l7 ?c7 ?k7 ?a8 ?l8 ?c8 ?k8 ?a9 ?l9 ?c9 ?k9 ?a10 ?l10 ?c10 ?k10 ?a11 ?l11 ?c11 ?k11 ?a12 ?l12 ?c12 ?k12 ?a13 ?l13 ?c13 ?k13 ?a14 ?l14 ?c14 ?k14 ?a15 ?l15 ?c15 ?k15 ?a16 ?i16 ?l16 ?c16 ?k16 ?a17 ?i17 ?l17 ?c17 ?k17 ?a18 ?l18 ?c18 ?k18 ?a19 ?l19 ?c19 ?k19 ?a20 ?l20 ?c20 ?k20 ?a21 ?l21 ?c21 ?k21 ?a22 ?l22 ?c22 ?k22 ?a23 ?l23 ?c23 ?k23 ?a24 ?l24 ?c24 ?k24 ?xL_BadHall ?rv_BadHall ?sa_BadHall ?eC_BadHall ?tC_BadHall ?kc_BadHall ?tI_BadHall ?ga_BadHall ?gg_BadHall ?hd_BadHall ?iS_BadHall ?sS_BadHall ?n_BadHall_at ?pg_Hall ?hd_Hall ?po_Hall ?sa_Hall ?mk_Hall ?kc_Hall ?n_Hall_boards ?n_Hall_names ?z_all ?z_bool ?z_enumerate ?z_int ?z_isinstance ?z_len ?z_list ?z_max ?z_range ?z_sorted ?z_str ?z_tuple ?z_zip ?g_MOST_BEGUN ?g_MOST_BOARDS
    (case a_BadHall => k_is)
    (case a_Hall => k_is)
    (case a1 => k_is)
    (case l1 => k_is)
    (case c1 => k_is)
    (case k1 => k_is)
    (case a2 => k_is)
    (case l2 => k_is)
    (case c2 => k_is)
    (case k2 => k_is)
    (case a3 => k_is)
    (case l3 => k_is)
    (case c3 => k_is)
    (case k3 => k_is)
    (case a4 => k_is)
    (case l4 => k_is)
    (case c4 => k_is)
    (case k4 => k_is)
    (case a5 => k_is)
    (case l5 => k_is)
    (case c5 => k_is)
    (case k5 => k_is)
    (case a6 => k_is)
    (case l6 => k_is)
    (case c6 => k_is)
    (case k6 => k_is)
    (case a7 => k_is)
    (case l7 => k_is)
    (case c7 => k_is)
    (case k7 => k_is)
    (case a8 => k_is)
    (case l8 => k_is)
    (case c8 => k_is)
    (case k8 => k_is)
    (case a9 => k_is)
    (case l9 => k_is)
    (case c9 => k_is)
    (case k9 => k_is)
    (case a10 => k_is)
    (case l10 => k_is)
    (case c10 => k_is)
    (case k10 => k_is)
    (case a11 => k_is)
    (case l11 => k_is)
    (case c11 => k_is)
    (case k11 => k_is)
    (case a12 => k_is)
    (case l12 => k_is)
    (case c12 => k_is)
    (case k12 => k_is)
    (case a13 => k_is)
    (case l13 => k_is)
    (case c13 => k_is)
    (case k13 => k_is)
    (case a14 => k_is)
    (case l14 => k_is)
    (case c14 => k_is)
    (case k14 => k_is)
    (case a15 => k_is)
    (case l15 => k_is)
    (case c15 => k_is)
    (case k15 => k_is)
    (case a16 => k_is)
    (case i16 => k_is)
    (case l16 => k_is)
    (case c16 => k_is)
    (case k16 => k_is)
    (case a17 => k_is)
    (case i17 => k_is)
    (case l17 => k_is)
    (case c17 => k_is)
    (case k17 => k_is)
    (case a18 => k_is)
    (case l18 => k_is)
    (case c18 => k_is)
    (case k18 => k_is)
    (case a19 => k_is)
    (case l19 => k_is)
    (case c19 => k_is)
    (case k19 => k_is)
    (case a20 => k_is)
    (case l20 => k_is)
    (case c20 => k_is)
    (case k20 => k_is)
    (case a21 => k_is)
    (case l21 => k_is)
    (case c21 => k_is)
    (case k21 => k_is)
    (case a22 => k_is)
    (case l22 => k_is)
    (case c22 => k_is)
    (case k22 => k_is)
    (case a23 => k_is)
    (case l23 => k_is)
    (case c23 => k_is)
    (case k23 => k_is)
    (case a24 => k_is)
    (case l24 => k_is)
    (case c24 => k_is)
    (case k24 => k_is)
    (case xL_BadHall => k_is)
    (case rv_BadHall => decide +kernel)
    (case sa_BadHall => k_is)
    (case eC_BadHall => k_is)
    (case tC_BadHall => k_is)
    (case kc_BadHall => k_is)
    (case tI_BadHall => k_is)
    (case ga_BadHall => k_is)
    (case gg_BadHall => k_is)
    (case hd_BadHall => k_is)
    (case iS_BadHall => k_is)
    (case sS_BadHall => first | rfl | k_is)
    (case n_BadHall_at => k_is)
    (case pg_Hall => k_is)
    (case hd_Hall => k_is)
    (case po_Hall => k_is)
    (case sa_Hall => k_is)
    (case mk_Hall => k_is)
    (case kc_Hall => k_is)
    (case n_Hall_boards => k_is)
    (case n_Hall_names => k_is)
    (case z_all => k_is)
    (case z_bool => k_is)
    (case z_enumerate => k_is)
    (case z_int => k_is)
    (case z_isinstance => k_is)
    (case z_len => k_is)
    (case z_list => k_is)
    (case z_max => k_is)
    (case z_range => k_is)
    (case z_sorted => k_is)
    (case z_str => k_is)
    (case z_tuple => k_is)
    (case z_zip => k_is)
    (case g_MOST_BEGUN => k_is)
    (case g_MOST_BOARDS => k_is)
#print axioms PySem.Challenge.cw_untoldgames_k11_halls_judged_holds
