import PyProof.Rows.All
import Wide.All
import OpenK.AllK
import Wide.FinOn
import HandS.Base
import HandS.Call
import HandS.ForMost
import HandS.Star
import HandS.Defaults
import KE.KOpsOwn
import HandS.OwnEq
import HandS.Wide
import HandS.FStr
import HandS.DictComp
import HandS.ClsMeth
import HandS.IsInst
import HandS.StrMore
import HandS.Walk
import PySem.Challenge.RW_owedanswers_k17_errors_made
import KE.KExcSuper
import HandS.Exc
import HandS.ExcInit
import HandS.Words
import HandS.WordsExc
import HandS.TryMany
import HandS.ExcField
import HandS.ExcIs
import HandS.ExcOwn
import PyProof.StrLawsRepr
import HandS.CallSlots
import HandS.Codes
import HandS.ExcValue
import PyProof.FitsInt
import PyProof.Rows.RegStrFacts
import HandS.Conv
import KE.KCallOwn
import PyProof.InstNe
import HandS.More
import HandS.RaiseMore
import KE.KRevSl
set_option Elab.async false
set_option linter.all false
set_option maxRecDepth 100000
namespace KwX
open PySem PySem.Spec PyProof.Rows

section
variable {prog : Program} {w : World} {K : Type} [DecidableEq K] {knd : KeyKind prog w K} {A : Around} {E : Value → Shared → Prop} {s : Shared}

theorem find_none {d : Addr} {kvs : List (K × Value)} {k : K} {key : Value} {Q : Option Nat → Shared → Prop} (hkey : knd.is k key = true) (hm : s.heap.DictOf knd d kvs) (hn : k ∉ kvs.map (·.1)) (h : Q none s) :
    wpAny (model prog w) A (dictFind d key (knd.hash k)) Q E s := by
  obtain ⟨o, es, ep, ho, hc, hd, hk, hp, _⟩ := hm
  refine wpAny_dictFind_of hkey ho hd hk ?_
  have hidx : (es.findIdx? fun e => knd.is k e.key) = kvs.findIdx? fun kv => decide (kv.1 = k) := by
    rw [← hp.findIdx k]; obtain ⟨l⟩ := es; simp
  have hno : (kvs.findIdx? fun kv => decide (kv.1 = k)) = none := by
    rw [List.findIdx?_eq_none_iff]
    intro x hx
    refine decide_eq_false fun e => hn ?_
    exact List.mem_map.mpr ⟨x, hx, e⟩
  rw [hidx, hno]
  exact h
theorem put_new {d : Addr} {kvs : List (K × Value)} {k : K} {key v : Value} {Q : Unit → Shared → Prop} (hkey : knd.is k key = true) (hm : s.heap.DictOf knd d kvs) (hn : k ∉ kvs.map (·.1)) (hsz : kvs.length ≤ sizeLine)
    (h : ∀ h', h'.DictOf knd d (kvs ++ [(k, v)]) → Heap.SameBut d s.heap h' → Q () { s with heap := h' }) :
    wpAny (model prog w) A (dictPut d (knd.hash k) key v) Q E s := by
  unfold dictPut
  refine wpAny_bind (find_none hkey hm hn ?_)
  obtain ⟨o, es, ep, ho, hc, hd, hk, hp, hnd⟩ := hm
  have hes : es.size ≤ sizeLine := by have e1 := hp.length; have e2 : es.toList.length = es.size := by simp
                                      omega
  refine wpAny_updateDictKeys (hz := hes) ho hd (h _ ⟨_, _, ep + 1, Heap.get?_update_self _ ho (Obj.isFreed_of_dict (Obj.data_mapDictKeys hd _)),
      hc.mapDictKeys _, Obj.data_mapDictKeys hd _, hk.push hkey _, ?_, ?_⟩ (Heap.SameBut.update ..))
  · have := hp.append hkey (knd.hash k) v
    obtain ⟨l⟩ := es
    simpa using this
  · rw [List.map_append, List.nodup_append]
    refine ⟨hnd, by simp, ?_⟩
    intro a ha b hb
    simp only [List.map_cons, List.map_nil, List.mem_singleton] at hb
    subst hb
    exact fun e => hn (e ▸ ha)
theorem wpAny_merge_new {d o : Addr} {more : List (K × Value)} {Q : Unit → Shared → Prop} (hdo : d ≠ o) (hoS : (o == sysModules) = false)
    (hd : s.heap.DictOf knd d []) (ho : s.heap.DictOf knd o more) (hfl : ∀ k v, knd.is k v = true → ∀ a, v ≠ .ref a) (hsz : more.length ≤ sizeLine)
    (hQ : ∀ h', h'.DictOf knd d more → h'.DictOf knd o more → Heap.SameBut d s.heap h' → Q () { s with heap := h' }) :
    wpAny (model prog w) A (mergeMapping d (.ref o) true) Q E s := by
  obtain ⟨od, esd, epd, hod, hcd, hdd, hkd, hpd, hnd⟩ := id hd
  obtain ⟨oo, eso, epo, hoo, hco, hdo', hko, hpo, hno⟩ := id ho
  have hlen : more.length = eso.size := by rw [← hpo.length]; simp
  have hT : s.TypeIs (.ref o) "dict" := ho.typeIs
  have hlk := F.slot_dict_iter.lookup
  have hsub := isSubtype_dict_dict
  have hdt : s.TypeIs (.ref d) "dict" := hd.typeIs
  obtain ⟨hp0, g, dr, tk, os⟩ := s
  unfold mergeMapping
  repeat (first | with_reducible refine wpAny_dictEntries hod hdd ?_ | with_reducible refine wpAny_dictEntries hoo hdo' ?_ | with_reducible refine wpAny_dictEpoch hoo hdo' ?_ | wp_step)
  have he0 : esd = #[] := by
    have e1 := hpd.length
    simp only [Array.length_toList, List.length_nil] at e1
    exact Array.eq_empty_of_size_eq_zero e1
  rw [if_pos (by rw [he0]; rfl)]
  have key : ∀ (i : Nat) (hi : i < eso.size), ∃ kv, more[i]? = some kv ∧ knd.is kv.1 eso[i].key = true ∧ eso[i].hash = knd.hash kv.1 ∧ eso[i].val = kv.2 := fun i hi => by
    obtain ⟨⟨k, v⟩, hkv⟩ : ∃ kv, more[i]? = some kv := ⟨more[i]'(by rw [hlen]; exact hi), List.getElem?_eq_getElem _⟩
    obtain ⟨hkey, hval⟩ := hpo.get? (e := eso[i]) (by simp [hi]) hkv
    obtain ⟨k', hkey', hhash⟩ := hko eso[i] (Array.getElem_mem hi)
    obtain rfl : k' = k := knd.inj _ _ _ hkey' hkey
    exact ⟨_, hkv, hkey, hhash, hval⟩
  refine wpAny_bind (wpAny_dictEntries hoo hdo' ?_)
  refine wpAny_bind ?_
  refine MeetsSeq2.wpAny_forIn_array _ (fun rest _ s' => s' = ⟨hp0, g, dr, tk, os⟩ ∧ ∀ e ∈ rest, e ∈ eso) _ ?_ ?_ _ _ ⟨rfl, fun e he => Array.mem_toList_iff.mp he⟩
  · rintro e rest b s' ⟨rfl, hr⟩
    obtain ⟨i, hi, rfl⟩ := Array.mem_iff_getElem.mp (hr e List.mem_cons_self)
    obtain ⟨kv, _, hk1, _, _⟩ := key i hi
    have hnr := hfl _ _ hk1
    split
    · rename_i a ha
      exact absurd ha (hnr a)
    · exact wpAny_pure ⟨rfl, fun e he => hr e (List.mem_cons_of_mem _ he)⟩
  · rintro b s' ⟨rfl, _⟩
    refine wpAny_bind (wpAny_dictEntries hoo hdo' ?_)
    refine wpAny_bind (wpAny_dictEpoch hoo hdo' ?_)
    refine wpAny_bind ?_
    rw [List.range_eq_range']
    refine wpAny_forIn_list _
      (fun rest _ s' => ∃ h' i, s' = (⟨h', g, dr, tk, os⟩ : Shared) ∧ rest = List.range' i (eso.size - i) ∧ i ≤ eso.size ∧ h'.DictOf knd d (more.take i) ∧ h'.get? o = some oo ∧ Heap.SameBut d hp0 h')
      _ ?_ ?_ _ _ ⟨hp0, 0, rfl, by simp, Nat.zero_le _, by simpa using hd, hoo, Heap.SameBut.refl _ _⟩
    · rintro x rest b s' ⟨h', i, rfl, hr, hi, hd', hoo', hs'⟩
      have hlt : i < eso.size := by
        rcases Nat.lt_or_ge i eso.size with h | h
        · exact h
        · rw [Nat.sub_eq_zero_of_le h] at hr; simp at hr
      obtain ⟨rfl, hrest⟩ : x = i ∧ rest = List.range' (i + 1) (eso.size - (i + 1)) := by
        have e : eso.size - i = (eso.size - (i + 1)) + 1 := by omega
        rw [e, List.range'_succ] at hr
        injection hr with h1 h2
        exact ⟨h1, h2⟩
      refine wpAny_bind (wpAny_dictEntries hoo' hdo' ?_)
      rw [Array.getElem?_eq_getElem hlt]
      obtain ⟨⟨k, v⟩, hkv, hkey, hhash, hval⟩ := key x hlt
      have hmx : (more.take x).length ≤ sizeLine := by rw [List.length_take]; omega
      have hnew : k ∉ (more.take x).map (·.1) := fun hm => by
        rw [List.map_take] at hm
        obtain ⟨j, hj, ej⟩ := List.getElem_of_mem hm
        have hj' : j < x := by rw [List.length_take] at hj; omega
        have hx2 : (more.map (·.1))[x]? = some k := by rw [List.getElem?_map, hkv]; rfl
        have hj2 : (more.map (·.1))[j]? = some k := by
          rw [List.getElem_take] at ej
          rw [← ej]
          exact List.getElem?_eq_getElem _
        have := (List.getElem?_inj (i := j) (by rw [List.length_map]; omega) hno).mp (hj2.trans hx2.symm)
        omega
      show wpAny _ _ (holding [eso[x].key, eso[x].val] _ >>= _) _ _ _
      refine wpAny_bind (wpAny_holding ?_)
      rw [hhash, hval]
      refine wpAny_bind (find_none hkey hd' hnew ?_)
      show wpAny _ _ (dictPut d (knd.hash k) eso[x].key v) _ _ _
      refine put_new hkey hd' hnew hmx fun h'' hd'' hs'' => ?_
      have hoo'' : h''.get? o = some oo := (hs''.2 o (Ne.symm hdo)).trans hoo'
      refine wpAny_bind (wpAny_dictEpoch hoo'' hdo' ?_)
      rw [if_neg (by simp)]
      refine wpAny_pure ⟨h'', x + 1, rfl, hrest, hlt, ?_, hoo'', hs'.trans hs''⟩
      rw [List.take_add_one, hkv]
      exact hd''
    · rintro b s' ⟨h', i, rfl, hr, hi, hd', hoo', hs'⟩
      have hin : i = eso.size := by
        rcases Nat.lt_or_ge i eso.size with h | h
        · have e : eso.size - i = (eso.size - (i + 1)) + 1 := by omega
          rw [e, List.range'_succ] at hr; exact nomatch hr
        · exact Nat.le_antisymm hi h
      rw [hin, ← hlen, List.take_length] at hd'
      exact wpAny_pure (hQ h' hd' ⟨oo, eso, epo, hoo', hco, hdo', hko, hpo, hno⟩ hs')
end
end KwX

set_option Elab.async false
set_option linter.all false
set_option maxRecDepth 100000
namespace KwX
open PySem PySem.Spec PyProof.Rows

section
variable {prog : Program} {w : World} {A : Around} {E : Value → Shared → Prop} {s : Shared}
theorem nsSet_new {d : Addr} {kvs : List (L2.Key × Value)} {x : Str} {v : Value} {Q : Unit → Shared → Prop} (hm : s.heap.DictOf (L2.mixKind prog w) d kvs) (hn : (Sum.inr x : L2.Key) ∉ kvs.map (·.1))
    (h : ∀ h', h'.DictOf (L2.mixKind prog w) d (kvs ++ [(Sum.inr x, v)]) → Heap.SameBut d s.heap h' → Q () { s with heap := h', toks := s.toks + 1 }) :
    wpAny (model prog w) A (nsSet d x v) Q E s := fun Γ p _ => by
  obtain ⟨o, es, ep, ho, hc, hd, hk, hp, hnd⟩ := hm
  simp only [nsSet, strHash, Sem.wp_bind', Sem.wp_cmd_ask, Sem.wp_pure', Sem.wp_cmd_mkText]
  rw [Sem.wp_loadPart_of _ Γ _ p { s with toks := s.toks + 1 } (o := o) _ ho]
  have hany : es.any (·.refKey) = false := by
    rw [Array.any_eq_false']
    intro e he
    obtain ⟨k, h1, _⟩ := hk e he
    rcases L2.keyIs_shape (show L2.keyIs k e.key = true from h1) with ⟨i, t, _, e1⟩ | ⟨y, t, _, e1⟩ <;> simp [DictEntry.refKey, e1]
  simp only [hd, aRefKeyMayBeTheName_eq, aRefKeyMayBeTheNameByArray, hany, Bool.and_false, Bool.false_eq_true, if_false, Sem.wp_cmd_updatePart]
  refine ⟨by rw [ho]; rfl, h _ ?_ (Heap.SameBut.update ..)⟩
  obtain ⟨c, d', dt, sl⟩ := o
  simp only at hd
  subst hd
  have hfun : (fun e : DictEntry => e.key.isStr x) = fun e => (L2.mixKind prog w).is (Sum.inr x) e.key := funext fun e => ((L2.mixKind prog w).strs (Sum.inr x) x 0 e.key (L2.keyIs_str x 0)).symm
  have hi : es.findIdx? (·.key.isStr x) = none := by
    rw [hfun]
    have hidx : (es.findIdx? fun e => (L2.mixKind prog w).is (Sum.inr x) e.key) = kvs.findIdx? fun kv => decide (kv.1 = Sum.inr x) := by
      rw [← hp.findIdx (Sum.inr x)]; obtain ⟨l⟩ := es; simp
    rw [hidx, List.findIdx?_eq_none_iff]
    intro z hz
    exact decide_eq_false fun e => hn (List.mem_map.mpr ⟨z, hz, e⟩)
  refine ⟨_, es.push ⟨hashStr w x, .str x s.toks, v⟩, ep + 1, Heap.get?_update_self _ ho (by simp only [Obj.putName_eq, Obj.putNameByArray, hi]; rfl), by simp only [Obj.putName_eq, Obj.putNameByArray, hi]; exact hc, by simp only [Obj.putName_eq, Obj.putNameByArray, hi]; rfl, (show PySem.KeysOf (L2.mixKind prog w) (es.push ⟨(L2.mixKind prog w).hash (Sum.inr x), .str x s.toks, v⟩) from hk.push (L2.mixKind_str prog w x s.toks) v), ?_, ?_⟩
  · have := hp.append (L2.mixKind_str prog w x s.toks) (hashStr w x) v
    obtain ⟨l⟩ := es
    simpa using this
  · rw [List.map_append, List.nodup_append]
    refine ⟨hnd, by simp, ?_⟩
    intro a ha b hb
    simp only [List.map_cons, List.map_nil, List.mem_singleton] at hb
    subst hb
    exact fun e => hn (e ▸ ha)

/-- the keywords of a dict of texts -/
def kwOf (vs : List (L2.Key × Value)) : List (Str × Value) := vs.filterMap fun p => match p.1 with
  | .inr x => some (x, p.2)
  | .inl _ => none
theorem keywordsIn_ok {f : Value} {d : Addr} {vs : List (L2.Key × Value)} {Q : List (Str × Value) → Shared → Prop} (hm : s.heap.DictOf (L2.mixKind prog w) d vs) (hs : ∀ p ∈ vs, ∃ x, p.1 = Sum.inr x) (h : Q (kwOf vs) s) :
    wpAny (model prog w) A (keywordsIn f d) Q E s := by
  obtain ⟨o, es, ep, ho, hc, hd, hk, hp, hnd⟩ := hm
  unfold keywordsIn
  refine wpAny_bind (wpAny_dictEntries ho hd ?_)
  refine wpAny_bind ?_
  refine MeetsSeq2.wpAny_forIn_array _ (fun rest kw s' => s' = s ∧ ∃ (vs2 : List (L2.Key × Value)), Pairs (L2.mixKind prog w) rest vs2 ∧ (∀ p ∈ vs2, ∃ x, p.1 = Sum.inr x) ∧ kwOf vs = kw ++ kwOf vs2) _ ?_ ?_ _ _ ⟨rfl, vs, hp, hs, rfl⟩
  · rintro e rest kw s' ⟨rfl, vs2, hp2, hs2, e2⟩
    cases hp2 with
    | @cons _ kv _ kvs h1 h2 h3 =>
      obtain ⟨x, ex⟩ := hs2 kv List.mem_cons_self
      obtain ⟨k, v⟩ := kv
      simp only at ex h2
      subst ex
      obtain ⟨t, et⟩ : ∃ t, e.key = .str x t := by
        rcases L2.keyIs_shape (show L2.keyIs (Sum.inr x) e.key = true from h1) with ⟨i, t, z, _⟩ | ⟨y, t, z, e1⟩
        · cases z
        · cases z; exact ⟨t, e1⟩
      rw [et]
      refine wpAny_pure ⟨rfl, kvs, h3, fun p hp => hs2 p (List.mem_cons_of_mem _ hp), ?_⟩
      rw [e2, h2]
      show kw ++ ((x, v) :: kwOf kvs) = (kw ++ [(x, v)]) ++ kwOf kvs
      rw [List.append_assoc]
      rfl
  · rintro kw s' ⟨rfl, vs2, hp2, hs2, e2⟩
    cases hp2
    have e3 : kwOf vs = kw := by rw [e2]; show kw ++ [] = kw; rw [List.append_nil]
    rw [← e3]
    exact wpAny_pure h
end
end KwX

set_option Elab.async false
set_option linter.all false
set_option maxRecDepth 100000
namespace KwX
open PySem PySem.Spec PyProof.Rows

section
variable {prog : Program} {w : World} {A : Around} {E : Value → Shared → Prop} {s : Shared}
abbrev dict0 : Obj := { cls := .type "dict", data := .dict #[] }
theorem mixFlat : ∀ (k : L2.Key) (v : Value), (L2.mixKind prog w).is k v = true → ∀ a, v ≠ .ref a := fun k v h a e => by
  subst e
  rcases L2.keyIs_shape (show L2.keyIs k (.ref a) = true from h) with ⟨i, t, _, e1⟩ | ⟨y, t, _, e1⟩ <;> cases e1
theorem merged_one {f : Value} {x : Sem Value} {Q : Addr → Shared → Prop}
    (h : wpAny (model prog w) A x (fun v s2 => ∃ (o : Addr) (more : List (L2.Key × Value)), v = .ref o ∧ s.heap.objs.size ≠ o ∧ (o == sysModules) = false ∧ s2.heap.DictOf (L2.mixKind prog w) s.heap.objs.size [] ∧ s2.heap.DictOf (L2.mixKind prog w) o more ∧ more.length ≤ sizeLine ∧
      ∀ h', h'.DictOf (L2.mixKind prog w) s.heap.objs.size more → h'.DictOf (L2.mixKind prog w) o more → Heap.SameBut s.heap.objs.size s2.heap h' → Q s.heap.objs.size { s2 with heap := h' }) E { s with heap := s.heap.push dict0 }) :
    wpAny (model prog w) A (mergedKeywords f [(none, x)]) Q E s := by
  unfold mergedKeywords
  refine wpAny_bind (wpAny_alloc ?_)
  refine wpAny_bind (wpAny_holding ?_)
  refine wpAny_bind ?_
  refine wpAny_forIn_list _ (fun rest g s' => g = [] ∧ ((rest = [(none, x)] ∧ s' = { s with heap := s.heap.push dict0 }) ∨ (rest = [] ∧ Q s.heap.objs.size s'))) _ ?_ ?_ _ _ ⟨rfl, .inl ⟨rfl, rfl⟩⟩
  · rintro ⟨nm, y⟩ rest g s' ⟨rfl, ⟨e1, rfl⟩ | ⟨e1, _⟩⟩
    · injection e1 with e1 e2
      injection e1 with e3 e4
      subst e2 e3 e4
      refine wpAny_bind (wpAny_pure ?_)
      refine wpAny_bind (wpAny_mono h (fun v s2 hv => ?_) fun _ _ z => z)
      obtain ⟨o, more, rfl, hne, hsm, h0, ho, hz, hq⟩ := hv
      refine wpAny_bind (wpAny_onRaise ?_)
      refine wpAny_holding (wpAny_tryCatch (wpAny_onRaise ?_))
      exact wpAny_merge_new hne hsm h0 ho mixFlat hz fun h' a b c => wpAny_pure ⟨rfl, .inr ⟨rfl, hq h' a b c⟩⟩
    · cases e1
  · rintro g s' ⟨rfl, ⟨e1, _⟩ | ⟨_, q⟩⟩
    · cases e1
    · exact wpAny_pure (wpAny_pure q)
theorem evalArgs_one {f : Value} {y : Sem Value} {rest : List (Bool × Sem Value)} {x : Sem Value} {Q : Args → Shared → Prop}
    (h : wpAny (model prog w) A (spliced ((false, y) :: rest)) (fun us s => wpAny (model prog w) A x (fun v s2 => ∃ (o : Addr) (more : List (L2.Key × Value)), v = .ref o ∧ s.heap.objs.size ≠ o ∧ (o == sysModules) = false ∧ s2.heap.DictOf (L2.mixKind prog w) s.heap.objs.size [] ∧ s2.heap.DictOf (L2.mixKind prog w) o more ∧ more.length ≤ sizeLine ∧ (∀ p ∈ more, ∃ x, p.1 = Sum.inr x) ∧
      ∀ h', h'.DictOf (L2.mixKind prog w) s.heap.objs.size more → h'.DictOf (L2.mixKind prog w) o more → Heap.SameBut s.heap.objs.size s2.heap h' → Q ⟨us, kwOf more⟩ { s2 with heap := h' }) E { s with heap := s.heap.push dict0 }) E s) :
    wpAny (model prog w) A (evalArgs f true ((false, y) :: rest) [(none, x)]) Q E s := by
  unfold evalArgs
  show wpAny _ _ (spliced ((false, y) :: rest) >>= _) Q E s
  refine wpAny_bind (wpAny_mono h (fun us s1 h1 => ?_) fun _ _ z => z)
  refine wpAny_bind (wpAny_pure ?_)
  refine wpAny_holding ?_
  show wpAny _ _ (mergedKeywords f [(none, x)] >>= _) Q E s1
  refine wpAny_bind (merged_one (wpAny_mono h1 (fun v s2 hv => ?_) fun _ _ z => z))
  obtain ⟨o, more, rfl, hne, hsm, h0, ho, hz, hks, hq⟩ := hv
  refine ⟨o, more, rfl, hne, hsm, h0, ho, hz, fun h' a b c => ?_⟩
  refine wpAny_bind (wpAny_pure ?_)
  exact wpAny_bind (wpAny_holding (keywordsIn_ok a hks (wpAny_pure (hq h' a b c))))
open PySem.W in
theorem callWith_one {K : Frag} {pos : Pos} {f : Value} {first : List Value} {y : Sem Value} {rest : List (Bool × Sem Value)} {x : Sem Value} {Q : Value → Shared → Prop} (hk : keepIn K f = true)
    (h : wpAny (model prog w) A (evalArgs f true ((false, y) :: rest) [(none, x)]) (fun a s₁ => K.In s₁.heap ∧ wpAny (model prog w) A (call f (first ++ a.pos) a.kw) Q E s₁) E s) :
    wpAny (model prog w) A (callWith pos f first ((false, y) :: rest) [(none, x)]) Q E s := by
  unfold callWith
  refine wpAny_bind (wpAny_holding (wpAny_mono h (fun a s₁ h₁ => wpAny_bind (wpAny_standAt ?_)) fun _ _ x => x))
  obtain ⟨hK, h₁⟩ := h₁
  obtain ⟨k, hk', L⟩ := keeps_K (M := model prog w) hk _ hK
  have hs : (((false, y) :: rest).any (·.1) || ([((none : Option Str), x)] : List (Option Str × Sem Value)).any (·.1.isNone)) = true := by simp
  simp only [hs]
  refine wpAny_bind (L.here ?_)
  have tail : ∀ {t : Sem Value}, wpAny (model prog w) A t Q E s₁ → wpAny (model prog w) A (t >>= fun r => holding [r] point >>= fun _ => pure r) Q E s₁ :=
    fun ht => wpAny_bind (wpAny_mono ht (fun r s₂ hr => wpAny_bind (wpAny_holding (wpAny_point (wpAny_pure hr)))) fun _ _ x => x)
  have marked (mk : Value) : wpAny (model prog w) A (callMarked mk f (first ++ a.pos) a.kw) Q E s₁ := by unfold callMarked; exact Calls.wpAny_keep h₁
  rcases hk' with rfl | rfl | rfl <;> dsimp only <;> first | exact tail (marked _) | exact tail (wpAny_operating h₁)
end
end KwX

set_option Elab.async false
set_option linter.all false
set_option maxRecDepth 100000
namespace KwX
open PySem PySem.Spec PyProof.Rows

section
variable {prog : Program} {w : World} {A : Around} {E : Value → Shared → Prop} {s : Shared}
def kwKeys (kw : List (Str × Value)) : List (L2.Key × Value) := kw.map fun p => (Sum.inr p.1, p.2)
theorem kwKeys_nodup {kw : List (Str × Value)} (h : (kw.map (·.1)).Nodup) : ((kwKeys kw).map (·.1)).Nodup := by
  unfold kwKeys
  rw [List.map_map]
  show (kw.map (Sum.inr ∘ fun p => p.1)).Nodup
  rw [← List.map_map]
  refine List.pairwise_map.mpr (List.Pairwise.imp (fun {a b} hab e => hab (Sum.inr.inj e)) h)
theorem nsSets {d : Addr} {Q : PUnit → Shared → Prop} : ∀ (kw : List (Str × Value)) (acc : List (L2.Key × Value)) {s : Shared}, s.heap.DictOf (L2.mixKind prog w) d acc → ((acc ++ kwKeys kw).map (·.1)).Nodup →
    (∀ h' t', h'.DictOf (L2.mixKind prog w) d (acc ++ kwKeys kw) → Heap.SameBut d s.heap h' → Q ⟨⟩ { s with heap := h', toks := t' }) →
    wpAny (model prog w) A (List.foldlM (fun (_ : PUnit) a => nsSet d a.fst a.snd) PUnit.unit kw) Q E s
  | [], acc, s, hm, _, hQ => by
    rw [List.foldlM_nil]
    have e : acc ++ kwKeys [] = acc := List.append_nil _
    exact wpAny_pure (hQ s.heap s.toks (by rw [e]; exact hm) (Heap.SameBut.refl _ _))
  | (k, v) :: kw, acc, s, hm, hn, hQ => by
    rw [List.foldlM_cons]
    have hn1 : (Sum.inr k : L2.Key) ∉ acc.map (·.1) := fun hmem => by
      rw [List.map_append, List.nodup_append] at hn
      exact hn.2.2 _ hmem (Sum.inr k) (by show Sum.inr k ∈ (kwKeys ((k, v) :: kw)).map (·.1); exact List.mem_cons_self) rfl
    have ea : acc ++ kwKeys ((k, v) :: kw) = (acc ++ [(Sum.inr k, v)]) ++ kwKeys kw := by rw [List.append_assoc]; rfl
    refine wpAny_bind (nsSet_new hm hn1 fun h1 hm1 hs1 => ?_)
    rw [ea] at hn hQ
    exact nsSets kw (acc ++ [(Sum.inr k, v)]) (s := { s with heap := h1, toks := s.toks + 1 }) hm1 hn fun h' t' a b => hQ h' t' a (hs1.trans b)
theorem bind_form {fd : FuncData} {a b dv : Value} {p1 p2 p3 : Arg} {kw : List (Str × Value)} {first : List Value} {Q : List (Str × Value) → Shared → Prop}
    (e1 : fd.params.posonlyargs = []) (e2 : fd.params.args = [p1, p2]) (n1 : p1.arg = "self") (n2 : p2.arg = "constant") (e3 : fd.params.kwonlyargs = []) (e4 : fd.params.vararg = none) (e5 : fd.params.kwarg = some p3) (n3 : p3.arg = "coefficients")
    (hd : PySem.W.Looks (model prog w) s.heap (seqItems? fd.defaults) (some #[dv]))
    (hf : first = [a, b] ∨ (first = [a] ∧ b = dv)) (hk : ∀ p ∈ kw, p.1 ≠ "self" ∧ p.1 ≠ "constant") (hnd : (kw.map (·.1)).Nodup) (hl : kw.length ≤ sizeLine)
    (h : ∀ h' t', (∀ c o, s.heap.get? c = some o → h'.get? c = some o) → h'.DictOf (L2.mixKind prog w) s.heap.objs.size (kwKeys kw) → Q [("self", a), ("constant", b), ("coefficients", .ref s.heap.objs.size)] { s with heap := h', toks := t' }) :
    wpAny (model prog w) A (bindArgs fd ⟨first, kw⟩) Q E s := by
  unfold bindArgs
  simp only [e1, e2, e3, e4, e5, List.map_nil, List.map_cons, List.nil_append, n1, n2]
  refine wpAny_bind ?_
  refine wpAny_forIn_list _ (fun rest (st : List (Str × Value) × List (Str × Value)) s' => s' = s ∧ kw = st.2 ++ rest ∧ st.1 = ([Str.ofString "self", Str.ofString "constant"].zip first)) _ ?_ ?_ _ _ ⟨rfl, rfl, rfl⟩
  · rintro ⟨k, v⟩ rest ⟨sl, ex⟩ s' ⟨rfl, ekw, esl⟩
    simp only at ekw esl
    obtain ⟨h1, h2⟩ := hk (k, v) (by rw [ekw]; exact List.mem_append_right _ List.mem_cons_self)
    have hc : ([Str.ofString "self", Str.ofString "constant"].contains k || ([] : List Str).contains k) = false := by
      have g1 : (k == Str.ofString "self") = false := beq_eq_false_iff_ne.mpr h1
      have g2 : (k == Str.ofString "constant") = false := beq_eq_false_iff_ne.mpr h2
      simp only [List.contains_cons, List.contains_nil, g1, g2, Bool.or_false]
    simp only [hc, Bool.false_eq_true, if_false, Option.isSome_some, if_true]
    exact wpAny_pure ⟨rfl, by rw [ekw, List.append_assoc]; rfl, esl⟩
  · rintro ⟨sl, ex⟩ s' ⟨rfl, ekw, esl⟩
    simp only [List.append_nil] at ekw esl
    subst ekw esl
    refine wpAny_bind (hd _ _ _ _ (fun _ _ z => z) ?_)
    have hlen : ¬ (decide (first.length > [Str.ofString "self", Str.ofString "constant"].length) && (none : Option Arg).isNone) = true := by
      rcases hf with rfl | ⟨rfl, _⟩ <;> simp
    have sc : (Str.ofString "constant" == Str.ofString "self") = false := by decide +kernel
    have cs : (Str.ofString "self" == Str.ofString "constant") = false := by decide +kernel
    rw [if_neg hlen]
    have hz : ¬ (kw.length > sizeLine + 1) := by omega
    have fin : wpAny (model prog w) A (do
        let d ← alloc { cls := Value.type "dict", data := Data.dict #[] }
        (fun (_ : PUnit) => [(Str.ofString "self", a), (Str.ofString "constant", b), (p3.arg, Value.ref d)]) <$> List.foldlM (fun (_ : PUnit) a => nsSet d a.fst a.snd) PUnit.unit kw) Q E s' := by
      refine wpAny_bind (wpAny_alloc ?_)
      rw [map_eq_pure_bind]
      refine wpAny_bind (nsSets kw [] (Heap.DictOf.new s'.heap) (by rw [List.nil_append]; exact kwKeys_nodup hnd) fun h' t' hd' hs' => ?_)
      rw [n3]
      rw [List.nil_append] at hd'
      exact wpAny_pure (h h' t' (fun c o e => (hs'.2 c (Nat.ne_of_lt (Heap.lt_size e))).trans (Heap.get?_push_of_some _ e)) hd')
    rcases hf with rfl | ⟨rfl, rfl⟩
    · simp [List.lookup_cons, sc, cs, hz]
      exact fin
    · simp [List.lookup_cons, sc, cs, hz]
      exact fin
end
end KwX

set_option Elab.async false
set_option linter.all false
set_option maxRecDepth 100000
set_option maxHeartbeats 1000000
namespace KwX
open PySem PySem.Spec PyProof.Rows L2

/-- keywords: names with values -/
abbrev KwR (ks : List (Str × V)) (kw : List (Str × Value)) : Prop := Paired (fun (p : Str × V) (q : Str × Value) => p.1 = q.1 ∧ RelV p.2 q.2) ks kw
def keyed (ks : List (Str × V)) : List (Key × V) := ks.map fun p => (Sum.inr p.1, p.2)
theorem kwR_keys : ∀ {ks : List (Str × V)} {kw : List (Str × Value)}, KwR ks kw → kw.map (·.1) = ks.map (·.1)
  | _, _, .nil => rfl
  | _, _, .cons h r => by
    rw [List.map_cons, List.map_cons, kwR_keys r, h.1]
theorem kwR_kv : ∀ {ks : List (Str × V)} {kw : List (Str × Value)}, KwR ks kw → KV (keyed ks) (kwKeys kw)
  | _, _, .nil => .nil
  | _, _, .cons h r => .cons ⟨congrArg Sum.inr h.1, h.2⟩ (kwR_kv r)
section
variable {P : Program} {w : World} {K : PySem.W.Frag} {mg : Str → Option Value} {base : Heap} {A : Around} {outer : List Env} {s : Shared} {H : Hp}
theorem env0_kept {h' : Heap} {t' : Nat} {u : HO} (e0 : Env0 P w K mg base A outer s H) (kp : ∀ b o, s.heap.get? b = some o → h'.get? b = some o) (new : ObjOk P w (upd H s.heap.objs.size u) h' s.heap.objs.size u) :
    Env0 P w K mg base A outer { s with heap := h', toks := t' } (upd H s.heap.objs.size u) := by
  refine ⟨e0.frames, e0.mod, fun b x e => ⟨kp b x (e0.bs b x e).1, ?_⟩, ?_, Heap.FunFrames.of_keeps (fun b x e _ => ⟨x, kp b x e, rfl⟩) e0.funs, fun b hb => ?_, e0.hok.laid kp (Nat.le_refl _) new, e0.bare⟩
  · rw [upd_ne (Nat.ne_of_lt (Heap.lt_size (e0.bs b x e).1))]
    exact (e0.bs b x e).2
  · exact Nat.le_trans e0.bsz (Nat.le_of_lt new.lt)
  · obtain ⟨_, x, hx, _⟩ := e0.funs.mem hb
    rw [upd_ne (Nat.ne_of_lt (Heap.lt_size hx))]
    exact e0.frf b hb
end
/-- the shape of a def (self, constant=.., **coefficients) -/
structure KwPar (p : Arguments) : Prop where
  e1 : p.posonlyargs = []
  e2 : ∃ a b, p.args = [a, b] ∧ a.arg = "self" ∧ b.arg = "constant"
  e3 : p.kwonlyargs = []
  e4 : p.vararg = none
  e5 : ∃ c, p.kwarg = some c ∧ c.arg = "coefficients"
/-- the values ahead: constant's own, or the default -/
def kwFirst (dv : V) : List V → V
  | [] => dv
  | c :: _ => c
/-- what such a def keeps -/
def KwOk (P : Program) (w : World) (K : PySem.W.Frag) (mg : Str → Option Value) (base : Heap) (k : Nat) (f : Addr) (dv : V) (sp : Sp) : Prop :=
  ∀ (A : Around) (outer : List Env) (s : Shared) (H : Hp) (v0 : V) (u0 : Value) (vs : List V) (us : List Value) (ks : List (Str × V)) (kw : List (Str × Value)) (Q : VK) (E : XK), Room k A → Env0 P w K mg base A outer s H →
    RelV v0 u0 → Vals vs us → vs.length ≤ 1 → KwR ks kw → (∀ p ∈ ks, p.1 ≠ "self" ∧ p.1 ≠ "constant") → (ks.map (·.1)).Nodup → ks.length ≤ sizeLine →
    (∀ d, H d = none → sp [v0, kwFirst dv vs, .ref d] (upd H d (.dK (keyed ks))) Q E) →
    codeAny (model P w) A (.call (.ref f) ⟨u0 :: us, kw⟩) (CR CX0 outer P w H s Q E) s
section
variable {P : Program} {w : World} {K : PySem.W.Frag} {mg : Str → Option Value} {base : Heap} {k : Nat} {f : Addr} {name qual : Str} {params : Arguments} {body : List Stmt} {scope : Scope} {N : List Str} {sp : Sp} {dv : V} {fd : FuncData}
/-- a call of such a def -/
theorem run_kwdef (F : FunD K name qual params body scope [dv] [] f fd) (hp : KwPar params) (S : FnScope N ["self", "constant", "coefficients"] scope)
    (hbody : ∀ (cdv : Value) (A : Around) (outer : List Env) (s : Shared) (H : Hp) (vs : List V) (Q : VK) (E : XK), Room k (A.deeper (envOfC qual scope s.heap.objs.size f cdv)) → sp vs H Q E →
      ∃ t, PSs (cxOf CX0 P w K mg base N qual scope f cdv A outer s H E).nox body t ∧ t { nx := fun _ H' => Q .non H', rt := Q } (start N vs) H)
: KwOk P w K mg base (k + 1) f dv sp := by
  intro A outer s H v0 u0 vs us ks kw Q E hr e0 r0 r hl rk hk hnd hz h
  obtain ⟨oc, od, dV, kV, doc, pm, an, cdv, ct, osl, rfl, lk, hcd, hD, _⟩ := F.ex
  obtain ⟨a1, a2, ea, en1, en2⟩ := hp.e2
  obtain ⟨a3, ea3, en3⟩ := hp.e5
  rcases hD with ⟨e, _⟩ | ⟨_, T, o, its, n, rfl, lT, oT, rT⟩
  · cases e
  cases rT with
  | @cons _ du _ _ rd rn =>
  cases rn
  have KX : K.In s.heap := e0.mod.kin.keeps fun b o e => (e0.bs b o e).1
  have hn : H s.heap.objs.size = Option.none := e0.hok.fresh (Nat.le_refl _)
  have hdef : PySem.W.Looks (model P w) s.heap (seqItems? (.ref T)) (some #[du]) := fun A Q E s kp q => wpAny_seqItems (kp _ _ (KX _ _ lT)) oT q
  obtain ⟨b, hf, rb⟩ : ∃ b, (u0 :: us = [u0, b] ∨ (u0 :: us = [u0] ∧ b = du)) ∧ RelV (kwFirst dv vs) b := by
    cases r with
    | nil => exact ⟨du, .inr ⟨rfl, rfl⟩, rd⟩
    | cons rx rr =>
      cases rr with
      | nil => exact ⟨_, .inl rfl, rx⟩
      | cons _ _ => exact absurd hl (by simp)
  have kk := kwR_keys rk
  refine StX.run_bnd (P := P) (w := w) (k := k) (ps := ["self", "constant", "coefficients"]) lk hcd S hr e0 (G := fun xs H2 => ∃ d, H d = Option.none ∧ xs = [v0, kwFirst dv vs, V.ref d] ∧ H2 = upd H d (.dK (keyed ks))) (fun A' Ex Q' hq => ?_) fun s2 H2 xs ⟨d, hd, ex, eH⟩ hr' => ?_
  · refine bind_form hp.e1 ea en1 en2 hp.e3 hp.e4 ea3 en3 hdef hf (fun p hp => ?_) (by rw [kk]; exact hnd) ?_ fun h' t' kp hD => ?_
    · have : p.1 ∈ ks.map (·.1) := by rw [← kk]; exact List.mem_map.mpr ⟨p, hp, rfl⟩
      obtain ⟨q, hq, e⟩ := List.mem_map.mp this
      rw [← e]
      exact hk q hq
    · have := congrArg List.length kk
      rw [List.length_map, List.length_map] at this
      omega
    · have new : ObjOk P w (upd H s.heap.objs.size (.dK (keyed ks))) h' s.heap.objs.size (.dK (keyed ks)) :=
        ⟨by unfold keyed; rw [List.length_map]; exact hz, beq_eq_false_iff_ne.mpr (Ne.symm (Nat.ne_of_lt (StX.env0_big e0))), _, kwR_kv rk, hD⟩
      exact hq _ _ [v0, kwFirst dv vs, V.ref s.heap.objs.size] [u0, b, Value.ref s.heap.objs.size] (env0_kept e0 kp new) (Un.laid kp (Nat.le_refl _) hn) rfl (fun e s' z => z) (.cons r0 (.cons rb (.cons rfl .nil))) rfl ⟨_, hn, rfl, rfl⟩
  · subst ex eH
    obtain ⟨t, ht, q⟩ := hbody cdv A outer s2 _ _ Q E hr' (h d hd)
    exact ⟨t, ht.nox, q⟩
end
end KwX

set_option Elab.async false
set_option linter.all false
set_option maxRecDepth 100000
set_option maxHeartbeats 1000000
namespace KwX
open PySem PySem.Spec PyProof.Rows L2

/-- what is wanted of a new instance: x, its dict, the dict of the keywords -/
def MkQ (C : Addr) (sp : Sp) (E : XK) (dv : V) (vs : List V) (ks : List (Str × V)) (H : Hp) (Q : VK) : Prop :=
  ∀ x dx d, H x = none → H dx = none → H d = none → dx ≠ x → d ≠ x → d ≠ dx → sp [.ref x, kwFirst dv vs, .ref d] (upd (upd (upd H dx (.own x)) x (.ins C dx [])) d (.dK (keyed ks))) (fun v H2 => v = .non ∧ Q (.ref x) H2) E
section
variable {X : Cx} {k : Nat} {f C : Addr} {dv : V} {sp : Sp} {E : XK} {pins : List (Addr × Obj)} {σ : L2.St} {H : Hp} {s : Shared}
theorem run_mk {Q : VK} {us : List Value} {vs : List V} {ks : List (Str × V)} {kw : List (Str × Value)} (M : Mk X.K C f) (F : KwOk X.prog X.w X.K X.mg X.base k f dv sp) (hr : Room (k + 1) X.A) (I : Inv X pins σ H s)
    (r : Vals vs us) (hl : vs.length ≤ 1) (rk : KwR ks kw) (hk : ∀ p ∈ ks, p.1 ≠ "self" ∧ p.1 ≠ "constant") (hnd : (ks.map (·.1)).Nodup) (hz : ks.length ≤ sizeLine) (h : MkQ C sp E dv vs ks H Q) :
    wpAny (model X.prog X.w) X.A (call (.ref C) us kw) (EP X pins σ Q) X.xe s := by
  have nx := I.hok.fresh (Nat.le_succ s.heap.objs.size)
  have ndx := I.hok.fresh (Nat.le_refl s.heap.objs.size)
  have ne := Nat.ne_of_lt (Nat.lt_succ_self s.heap.objs.size)
  have I2 := Inv.made (C := C) I
  refine wpAny_call (make_map (f := f) I.kIn M.makes M.init (beq_iff_eq.mp M.fn) (codeAny_mono (F _ X.stack _ _ (.ref (s.heap.objs.size + 1)) _ vs us ks kw (fun v H2 => v = .non ∧ Q (.ref (s.heap.objs.size + 1)) H2) E (hr.make C us kw) (I2.env0.make C us kw) rfl r hl rk hk hnd hz fun d hd => ?_) fun r s' hq' => ?_))
  · have n1 : d ≠ s.heap.objs.size + 1 := fun z => by rw [z, upd_same] at hd; cases hd
    have n2 : d ≠ s.heap.objs.size := fun z => by rw [z, upd_ne ne, upd_same] at hd; cases hd
    rw [upd_ne n1, upd_ne n2] at hd
    exact h (s.heap.objs.size + 1) s.heap.objs.size d nx ndx hd ne n1 n2
  · cases r with
    | error e => exact False.elim hq'
    | ok fl =>
      cases fl with
      | ret u =>
        obtain ⟨v, H', I3, rv, ev, q3⟩ := I2.after hq'
        subst ev
        exact ⟨rv, ⟨V.ref (s.heap.objs.size + 1), H', I3, rfl, q3⟩⟩
      | next => exact False.elim hq'
      | brk => exact False.elim hq'
      | cont => exact False.elim hq'
end
/-- the values of a dict whose keys are texts -/
def pairsOf (kvs : List (Key × V)) : List (Str × V) := kvs.filterMap fun p => match p.1 with
  | .inr x => some (x, p.2)
  | .inl _ => none
theorem kwOf_rel : ∀ {kvs : List (Key × V)} {vs : List (Key × Value)}, KV kvs vs → KwR (pairsOf kvs) (kwOf vs)
  | _, _, .nil => .nil
  | (k, v) :: kvs, (k', u) :: vs, .cons h r => by
    obtain ⟨h1, h2⟩ := h
    simp only at h1
    subst h1
    cases k with
    | inl i =>
      show KwR (pairsOf kvs) (kwOf vs)
      exact kwOf_rel r
    | inr x =>
      show KwR ((x, v) :: pairsOf kvs) ((x, u) :: kwOf vs)
      exact .cons ⟨rfl, h2⟩ (kwOf_rel r)
theorem kv_keys {kvs : List (Key × V)} {vs : List (Key × Value)} (h : KV kvs vs) : ∀ p ∈ vs, ∃ q ∈ kvs, q.1 = p.1 := by
  induction h with
  | nil => intro p hp; cases hp
  | cons h r ih =>
    intro p hp
    rcases List.mem_cons.mp hp with rfl | hp
    · exact ⟨_, List.mem_cons_self, h.1⟩
    · obtain ⟨q, hq, e⟩ := ih p hp
      exact ⟨q, List.mem_cons_of_mem _ hq, e⟩
theorem kv_map {kvs : List (Key × V)} {vs : List (Key × Value)} (h : KV kvs vs) : kvs.map (·.1) = vs.map (·.1) := by
  induction h with
  | nil => rfl
  | cons h r ih => rw [List.map_cons, List.map_cons, ih, h.1]
/-- C(e, **t) -/
def tMkT (C : Addr) (sp : Sp) (E : XK) (dv : V) (ta tt : TE) : TE := fun σ H Q => ta σ H fun x H1 => ∀ d0, H1 d0 = none → tt σ (upd H1 d0 (.dK [])) fun y H2 => ∃ o ks, y = .ref o ∧ o ≠ d0 ∧ H2 o = some (.dK (keyed ks)) ∧ H2 d0 = some (.dK []) ∧
  (∀ p ∈ ks, p.1 ≠ "self" ∧ p.1 ≠ "constant") ∧ (ks.map (·.1)).Nodup ∧ MkQ C sp E dv [x] ks (upd H2 d0 (.dK (keyed ks))) Q
theorem pairsOf_keyed : ∀ (ks : List (Str × V)), pairsOf (keyed ks) = ks
  | [] => rfl
  | (x, v) :: ks => by
    show (x, v) :: pairsOf (keyed ks) = _
    rw [pairsOf_keyed ks]
section
variable {X : Cx} {k : Nat} {f C : Addr} {dv : V} {sp : Sp} {E : XK} {x : Str} {p pos kpos : Pos} {e e2 : Expr} {ta tt : TE}
theorem pe_mkT (M : Mk X.K C f) (F : KwOk X.prog X.w X.K X.mg X.base k f dv sp) (hr : Room (k + 1) X.A) (hg : Gl X x) (hm : X.mg x = some (.ref C)) (he : PE X e ta) (ht : PE X e2 tt) (hdb : (x == ("__debug__" : Str)) = false := by decide)
    (hst : starEach [e] X.env = [(false, eval e X.env)] := by rfl) : PE X (.Call (.Name x p) [e] [⟨none, e2, kpos⟩] pos) (tMkT C sp E dv ta tt) := by
  refine ⟨fun pins s σ H Q I h => ?_⟩
  refine wpAny_Call_Name_kw (ld_glob I hg hm ?_ hdb)
  rw [hst]
  show wpAny _ _ (callWith pos (.ref C) [] [(false, eval e X.env)] [(none, do let v ← eval e2 X.env; standAt pos; pure v)]) _ _ _
  refine callWith_one (K := X.K) M.kp (evalArgs_one ?_)
  refine Calls.spliced_cons (thn (he.run pins s σ H _ I h) fun u s1 ⟨y, H1, I1, r1, q1⟩ => Calls.spliced_nil ?_)
  have hn := I1.hok.fresh (Nat.le_refl s1.heap.objs.size)
  have hbig : sysModules < s1.heap.objs.size := StX.env0_big I1.env0
  have I2 : Inv X pins σ (upd H1 s1.heap.objs.size (.dK [])) { s1 with heap := s1.heap.push dict0 } := I1.laid (t' := s1.toks) (fun b u e => Heap.get?_push_of_some _ e) (Nat.le_refl _) (dk_empty _ hbig)
  refine wpAny_bind (thn (ht.run pins _ σ _ _ I2 (q1 s1.heap.objs.size hn)) fun v s2 ⟨z, H2, I3, r2, o, ks, ez, ne, ho, h0, hk, hnd, q2⟩ => wpAny_bind (wpAny_standAt (wpAny_pure ?_)))
  subst ez
  obtain rfl : v = Value.ref o := r2
  obtain ⟨zl, hsm, vs, rv, hD⟩ := I3.hok o _ ho
  obtain ⟨_, hsm0, vs0, rv0, hD0⟩ := I3.hok _ _ h0
  cases rv0
  have hlen : vs.length ≤ sizeLine := by have := Paired.length rv; omega
  refine ⟨o, vs, rfl, Ne.symm ne, hsm, hD0, hD, hlen, fun p hp => ?_, fun h' a b c => ?_⟩
  · obtain ⟨q, hq, e⟩ := kv_keys rv p hp
    obtain ⟨y', hy', ey⟩ := List.mem_map.mp hq
    exact ⟨y'.1, by rw [← e, ← ey]⟩
  · have I4 : Inv X pins σ (upd H2 s1.heap.objs.size (.dK (keyed ks))) { s2 with heap := h' } := by
      refine I3.write (t' := s2.toks) (x := s1.heap.objs.size) (e := s1.heap.objs.size) (o := .dK (keyed ks)) (by rw [h0]; exact True.intro) (.inl rfl) (fun b u hb e => (c.2 b hb).trans e) ?_ ⟨zl, hsm0, vs, rv, a⟩
      obtain ⟨o', _, _, e', _⟩ := a
      exact ⟨o', e'⟩
    have rk : KwR ks (kwOf vs) := by
      have := kwOf_rel rv
      rw [pairsOf_keyed] at this
      exact this
    refine ⟨I4.kIn, ?_⟩
    exact run_mk (us := [u]) (vs := [y]) M F hr I4 (.cons r1 .nil) (Nat.le_refl 1) rk hk hnd (by unfold keyed at zl; rw [List.length_map] at zl; exact zl) q2
end
end KwX

set_option Elab.async false
set_option linter.all false
set_option maxRecDepth 100000
set_option maxHeartbeats 1000000
namespace OpX
open PySem PySem.Spec PyProof.Rows L2

theorem back {Q : Value → Shared → Prop} {v : V} {u : Value} {s : Shared} (r : RelV v u) (q : Q u s) : PySem.W.CmpBack Q u s := by
  cases v with
  | non => cases r; exact q
  | bl _ => cases r; exact q
  | int _ => obtain ⟨t, rfl⟩ := r; exact q
  | str _ => obtain ⟨t, rfl⟩ := r; exact q
  | byt _ => obtain ⟨t, rfl⟩ := r; exact q
  | flt _ => obtain ⟨t, rfl⟩ := r; exact q
  | ref _ => cases r; exact q
  | ty _ => cases r; exact q
/-- a class with an operator of its own (its def at f), its right one at g or none -/
structure OpC (K : PySem.W.Frag) (C : Addr) (op : Operator) (f : Addr) : Prop where
  first : PySem.W.selfFirst K C = true
  at_ : PySem.W.findIn K (.ref C) (PySem.dunder op.info.2) = some (some (.ref f))
  fn : PySem.W.isFn K (.ref f) = true
  rr : ∃ rc, PySem.W.findIn K (.ref C) (PySem.dunderR op.info.2) = some rc ∧ (rc = none ∨ ∃ g : Addr, rc = some (.ref g))
  i1 : ∃ fo, PySem.W.findIn K (.type "int") (PySem.dunder op.info.2) = some fo
  i2 : ∃ ro, PySem.W.findIn K (.type "int") (PySem.dunderR op.info.2) = some ro
  sub : PySem.W.subIn K (.type "int") (.ref C) = some false
/-- x op y, x an instance of C, y another one or an int -/
def rOwn (C : Addr) (sp : Sp) (E : XK) : R2 := fun x y H Q => ∃ a dx fs, x = .ref a ∧ H a = some (.ins C dx fs) ∧ ((∃ i, y = .int i) ∨ ∃ b dy gs, y = .ref b ∧ H b = some (.ins C dy gs)) ∧ sp [x, y] H Q E
section
variable {X : Cx} {CX : CXT} {k : Nat} {f g C : Addr} {fd : FuncData} {ps : List Str} {sp : Sp} {E : XK}
theorem op_own {op : Operator} (O : OpC X.K C op f) (F : FnOk X.prog X.w X.K X.mg X.base CX k f fd ps sp) (hr : Room k X.A) (hb : Binds X.K fd ps []) (hx : Passes CX X E) : OpR X (binaryOp op) (rOwn C sp E) := by
  intro pins s σ H x y u v Q I rx ry h
  obtain ⟨a, dx, fs, rfl, ha, hy, hsp⟩ := h
  obtain rfl : u = Value.ref a := rx
  obtain ⟨mA, J, _⟩ := ins_get I.hok ha
  obtain ⟨od, J, _⟩ := J.look
  obtain ⟨m, hF⟩ := I.fr
  have hcall : wpAny (model X.prog X.w) X.A (call (.ref f) [.ref a, v]) (PySem.W.CmpBack (EP X pins σ Q)) X.xe s := by
    refine thn (run_fn (Q := Q) (us := [.ref a, v]) (vs := [.ref a, y]) F hr hb .nil hx I (.cons rfl (.cons ry .nil)) (by rw [List.append_nil]; exact hsp)) fun w' s' hh => ?_
    obtain ⟨z, H', I', rz, q⟩ := hh
    exact back rz ⟨z, H', I', rz, q⟩
  rcases hy with ⟨i, rfl⟩ | ⟨b, dy, gs, rfl, hb'⟩
  · obtain ⟨t, rfl⟩ := (show ∃ t, v = Value.int i t from ry)
    obtain ⟨rc, h1, h2⟩ := O.rr
    obtain ⟨fo, h3⟩ := O.i1
    obtain ⟨ro, h4⟩ := O.i2
    exact PySem.W.ksp_binT (T := "int") hF I.ok.mod.kin J rfl O.first O.at_ O.fn h1 h2 h3 h4 O.sub hcall
  · obtain rfl : v = Value.ref b := ry
    obtain ⟨mB, J', _⟩ := ins_get I.hok hb'
    obtain ⟨od', J', _⟩ := J'.look
    exact PySem.W.binop_K hF I.ok.mod.kin J J'.type O.first O.at_ O.fn hcall
/-- -x -/
theorem un_own (hs : PySem.W.findIn X.K (.ref C) "__neg__" = some (some (.ref f))) (hf : PySem.W.isFn X.K (.ref f) = true) (F : FnOk X.prog X.w X.K X.mg X.base CX k f fd ps sp) (hr : Room k X.A) (hb : Binds X.K fd ps []) (hx : Passes CX X E) :
    UnR X (unaryOp .USub) (fun x H Q => ∃ a dx fs, x = .ref a ∧ H a = some (.ins C dx fs) ∧ sp [x] H Q E) := by
  intro pins s σ H x u Q I rx h
  obtain ⟨a, dx, fs, rfl, ha, hsp⟩ := h
  obtain rfl : u = Value.ref a := rx
  obtain ⟨mA, J, _⟩ := ins_get I.hok ha
  obtain ⟨od, J, _⟩ := J.look
  obtain ⟨m, hF⟩ := I.fr
  exact PySem.W.ksp_neg hF I.ok.mod.kin J hs hf (run_fn (us := [.ref a]) (vs := [.ref a]) F hr hb .nil hx I (.cons rfl .nil) (by rw [List.append_nil]; exact hsp))
end

/-! an int on the left -/
/-- int's own operator at an instance says NotImplemented -/
structure IntL (op : Operator) (id : String) : Prop where
  look : Slot "int" (PySem.dunder op.info.2) id
  gives : ∀ {prog : Program} {w : World} {A : Around} {E : Value → Shared → Prop} {s : Shared} {i : Int} {t : Tok} {b : Addr} {ob : Obj} {Q : Value → Shared → Prop}, s.heap.get? b = some ob → ob.data = .plain → Q .notImplemented s →
    wpAny (model prog w) A (call (.builtin id) [.int i t, .ref b]) Q E s
  fills : fillsNumberSlot (.type "int") op.info.2 = pure true
theorem asInt_inst {M : Model} {A : Around} {E : Value → Shared → Prop} {s : Shared} {b : Addr} {ob : Obj} {Q : Option Int → Shared → Prop} (h1 : s.heap.get? b = some ob) (h2 : ob.data = .plain) (hq : Q none s) : wpAny M A (asInt? (.ref b)) Q E s := by
  unfold asInt?
  refine wpAny_bind (wpAny_load h1 ?_)
  rw [h2]
  exact wpAny_pure hq
theorem intAdd : IntL .Add "int.__add__" where
  look := F.slot_int_add
  gives := fun {prog w A E s i t b ob Q} h1 h2 hq => by
    refine GQ.call_here F.slot_int_add rfl F.entry_int_add (F.args_int_add_2 _ _) ?_
    unfold Builtin.«int.__add__» Builtin.Int.intBinary
    refine wpAny_bind (wpAny_of_eq (a := (Value.int i t, [Value.ref b])) (by first | rfl | kernel_rfl) ?_)
    refine wpAny_bind (wpAny_of_eq (a := i) (by first | rfl | kernel_rfl) ?_)
    refine wpAny_bind (asInt_inst h1 h2 ?_)
    exact wpAny_bind (wpAny_rule (wpAny_pure hq))
  fills := F.fills_int_add
theorem intSub : IntL .Sub "int.__sub__" where
  look := F.slot_int_sub
  gives := fun {prog w A E s i t b ob Q} h1 h2 hq => by
    refine GQ.call_here F.slot_int_sub rfl F.entry_int_sub (F.args_int_sub_2 _ _) ?_
    unfold Builtin.«int.__sub__» Builtin.Int.intBinary
    refine wpAny_bind (wpAny_of_eq (a := (Value.int i t, [Value.ref b])) (by first | rfl | kernel_rfl) ?_)
    refine wpAny_bind (wpAny_of_eq (a := i) (by first | rfl | kernel_rfl) ?_)
    refine wpAny_bind (asInt_inst h1 h2 ?_)
    exact wpAny_bind (wpAny_rule (wpAny_pure hq))
  fills := F.fills_int_sub
theorem intMul : IntL .Mult "int.__mul__" where
  look := F.slot_int_mul
  gives := fun {prog w A E s i t b ob Q} h1 h2 hq => by
    refine GQ.call_here F.slot_int_mul rfl F.entry_int_mul (F.args_int_mul_2 _ _) ?_
    unfold Builtin.«int.__mul__» Builtin.Int.intBinary
    refine wpAny_bind (wpAny_of_eq (a := (Value.int i t, [Value.ref b])) (by first | rfl | kernel_rfl) ?_)
    refine wpAny_bind (wpAny_of_eq (a := i) (by first | rfl | kernel_rfl) ?_)
    refine wpAny_bind (asInt_inst h1 h2 ?_)
    exact wpAny_bind (wpAny_rule (wpAny_pure hq))
  fills := F.fills_int_mul
/-- a class whose right operator stands at g (and perhaps a left one) -/
structure OpR' (K : PySem.W.Frag) (C : Addr) (op : Operator) (g : Addr) : Prop where
  first : PySem.W.selfFirst K C = true
  at_ : ∃ f : Addr, PySem.W.findIn K (.ref C) (PySem.dunder op.info.2) = some (some (.ref f))
  rr : PySem.W.findIn K (.ref C) (PySem.dunderR op.info.2) = some (some (.ref g))
  fn : PySem.W.isFn K (.ref g) = true
  sub : PySem.W.subIn K (.ref C) (.type "int") = some false
def rRev (C : Addr) (sp : Sp) (E : XK) : R2 := fun x y H Q => ∃ i a dx fs, x = .int i ∧ y = .ref a ∧ H a = some (.ins C dx fs) ∧ sp [y, x] H Q E
section
variable {X : Cx} {CX : CXT} {k : Nat} {g C : Addr} {fd : FuncData} {ps : List Str} {sp : Sp} {E : XK}
open PySem.W in
theorem op_rev {op : Operator} {id : String} (L : IntL op id) (O : OpR' X.K C op g) (F : FnOk X.prog X.w X.K X.mg X.base CX k g fd ps sp) (hr : Room k X.A) (hb : Binds X.K fd ps []) (hx : Passes CX X E) : OpR X (binaryOp op) (rRev C sp E) := by
  intro pins s σ H x y v u Q I rx ry h
  obtain ⟨i, a, dx, fs, rfl, rfl, ha, hsp⟩ := h
  obtain rfl : u = Value.ref a := ry
  obtain ⟨t, rfl⟩ := (show ∃ t, v = Value.int i t from rx)
  obtain ⟨mA, J, _⟩ := ins_get I.hok ha
  have hat := J.obj
  obtain ⟨od, J, _⟩ := J.look
  obtain ⟨f, hs⟩ := O.at_
  obtain ⟨cd, rest, hcd, hm⟩ := ksp_first O.first
  have hcall : wpAny (model X.prog X.w) X.A (call (.ref g) [.ref a, .int i t]) (PySem.W.CmpBack (EP X pins σ Q)) X.xe s := by
    refine thn (run_fn (Q := Q) (us := [.ref a, .int i t]) (vs := [.ref a, .int i]) F hr hb .nil hx I (.cons rfl (.cons rx .nil)) (by rw [List.append_nil]; exact hsp)) fun w' s' hh => ?_
    obtain ⟨z, H', I', rz, q⟩ := hh
    exact back rz ⟨z, H', I', rz, q⟩
  have KX := I.kIn
  have hrr := O.rr
  have one := ksp_try KX J O.rr O.fn hcall
  have L1 : Looks (model X.prog X.w) s.heap (typeOf (.ref a)) (.ref C) := J.type
  have L3 : Looks (model X.prog X.w) s.heap (fillsNumberSlot (.ref C) op.info.2) true := fills_K KX hcd hm hs
  have L5 : Looks (model X.prog X.w) s.heap (isSubtype (.ref C) (.type "int")) false := looks_subIn KX O.sub
  have hne : (Value.type "int" == Value.ref C) = false := Bool.eq_false_iff.mpr fun q => by cases beq_iff_eq.mp q
  have hfill := L.fills
  have hslot := L.look
  have first : ∀ {Q' : Option Value → Shared → Prop}, Q' none s → wpAny (model X.prog X.w) X.A (tryMethod (.int i t) (PySem.dunder op.info.2) (.ref a)) Q' X.xe s := fun {Q'} q => by
    unfold tryMethod
    refine wpAny_bind (wpAny_callSpecial?_slot (T := "int") rfl hslot ?_)
    exact L.gives hat rfl (wpAny_pure q)
  rcases hi : op.info with ⟨sym, nm'⟩
  rw [hi] at hs hfill hslot first L3 one
  dsimp only at hs hfill hslot first L3 one
  have L2 : Looks (model X.prog X.w) s.heap (fillsNumberSlot (.type "int") nm') true := Looks.of_pure hfill
  have L7 : Looks (model X.prog X.w) s.heap (numberSlotInPython (.type "int") nm') false := Looks.of_pure rfl
  obtain ⟨hh, g', d, tt, os⟩ := s
  have L0 : Looks (model X.prog X.w) hh (typeOf (.int i t)) (.type "int") := Looks.of_pure rfl
  simp only [binaryOp, hi]
  refine wpAny_holding (wpAny_bind ?_)
  unfold binaryOp1
  refine wpAny_bind (L0.at (wpAny_bind (L1.at (wpAny_bind (L2.at ?_)))))
  simp only [hne, Bool.false_eq_true, if_false]
  ksp_lk
  refine first ?_
  ksp_lk
  refine wpAny_mono one (fun r s' hr' => ?_) fun _ _ e => e
  obtain ⟨v, rfl, hq⟩ := hr'
  ksp_lk
  exact hq
end
end OpX

set_option Elab.async false
set_option linter.all false
set_option maxRecDepth 100000
set_option maxHeartbeats 1000000
namespace Ow
open PySem PySem.Spec PyProof.Rows L2

/-! ### a def of the module, with its promise -/
structure Cal (P : Program) (w : World) (K : PySem.W.Frag) (mg : Str → Option Value) (base : Heap) (x : Str) (k : Nat) (sp : Sp) : Prop where
  ex : ∃ (f : Addr) (fd : FuncData) (ps : List Str), mg x = some (.ref f) ∧ FnOk P w K mg base CX0 k f fd ps sp ∧ Binds K fd ps [] ∧ PySem.W.keepIn K (.ref f) = true
def tCal (sp : Sp) (t : TA) : TE := fun σ H Q => t σ H fun vs H1 => sp vs H1 Q E0
section
variable {X : Cx} {k : Nat} {sp : Sp} {x m : Str} {e o : Expr} {es : List Expr} {t : TA} {te : TE} {p pos apos : Pos} {C : Addr}
theorem pe_cal (c : Cal X.prog X.w X.K X.mg X.base x k sp) (hr : Room k X.A) (ha : PA X (e :: es) t) (hg : Gl X x := by rfl) (hdb : (x == ("__debug__" : Str)) = false := by decide)
    (he : starEach (e :: es) X.env = (false, eval e X.env) :: starEach es X.env := by rfl) (hpl : (backTo pos (starEach es X.env)).any (·.1) = false := by rfl) :
    PE X (.Call (.Name x p) (e :: es) [] pos) (tCal sp t) := by
  refine ⟨fun pins s σ H Q I h => ?_⟩
  obtain ⟨f, fd, ps, hm, F, hb, hk⟩ := c.ex
  refine (pe_call F hr hg hm hk hb .nil pass0 ha hdb he hpl).run pins s σ H Q I ?_
  show t σ H fun vs H1 => sp (vs ++ []) H1 Q E0
  have e0 : (fun vs H1 => sp (vs ++ []) H1 Q E0) = fun vs H1 => sp vs H1 Q E0 := by
    funext vs H1
    rw [List.append_nil]
  rw [e0]
  exact h
/-- a method of the class at C -/
structure CalM (P : Program) (w : World) (K : PySem.W.Frag) (mg : Str → Option Value) (base : Heap) (C : Addr) (m : Str) (k : Nat) (sp : Sp) : Prop where
  cl : Cls K C
  ex : ∃ (f : Addr) (fd : FuncData) (ps : List Str), Meth K C m f ∧ FnOk P w K mg base CX0 k f fd ps sp ∧ Binds K fd ps []
def tCalM (C : Addr) (m : Str) (sp : Sp) (ta : TE) (t : TA) : TE := fun σ H Q => ta σ H fun x H1 => ∃ a dx fs, x = .ref a ∧ H1 a = some (.ins C dx fs) ∧ fs.lookup m = none ∧ t σ H1 fun vs H2 => sp (x :: vs) H2 Q E0
theorem pe_calM {pl : Sem Bool} (c : CalM X.prog X.w X.K X.mg X.base C m k sp) (hr : Room k X.A) (ho : PE X o te) (ha : PA X (e :: es) t)
    (ht : eval (.Call (.Attribute o m apos) (e :: es) [] pos) X.env = (do
      let ov ← eval o X.env
      standAt apos.atName
      let (f, first) ← holding [ov] (getMethod ov m pl)
      callWith pos f first (backTo pos (starEach (e :: es) X.env)) (backToKw pos (keywordEach [] X.env))) := by rfl)
    (hst : starEach (e :: es) X.env = (false, eval e X.env) :: starEach es X.env := by rfl) (hpl : (backTo pos (starEach es X.env)).any (·.1) = false := by rfl) :
    PE X (.Call (.Attribute o m apos) (e :: es) [] pos) (tCalM C m sp te t) := by
  refine ⟨fun pins s σ H Q I h => ?_⟩
  obtain ⟨f, fd, ps, hm, F, hb⟩ := c.ex
  refine (pe_meth ho c.cl hm F hr hb .nil pass0 ha hst hpl ht).run pins s σ H Q I ?_
  show te σ H fun x H1 => ∃ a dx fs, x = .ref a ∧ H1 a = some (.ins C dx fs) ∧ fs.lookup m = none ∧ t σ H1 fun vs H2 => sp (x :: (vs ++ [])) H2 Q E0
  have e0 : (fun x H1 => ∃ a dx fs, x = V.ref a ∧ H1 a = some (.ins C dx fs) ∧ fs.lookup m = none ∧ t σ H1 fun vs H2 => sp (x :: (vs ++ [])) H2 Q E0) =
      fun x H1 => ∃ a dx fs, x = V.ref a ∧ H1 a = some (.ins C dx fs) ∧ fs.lookup m = none ∧ t σ H1 fun vs H2 => sp (x :: vs) H2 Q E0 := by
    funext x H1
    simp only [List.append_nil]
  rw [e0]
  exact h
theorem pe_calM0 {pl : Sem Bool} (c : CalM X.prog X.w X.K X.mg X.base C m k sp) (hr : Room k X.A) (ho : PE X o te)
    (ht : eval (.Call (.Attribute o m apos) [] [] pos) X.env = (do
      let ov ← eval o X.env
      standAt apos.atName
      let (f, first) ← holding [ov] (getMethod ov m pl)
      callWith pos f first (backTo pos (starEach [] X.env)) (backToKw pos (keywordEach [] X.env))) := by rfl) :
    PE X (.Call (.Attribute o m apos) [] [] pos) (tCalM C m sp te tNil) := by
  refine ⟨fun pins s σ H Q I h => ?_⟩
  obtain ⟨f, fd, ps, hm, F, hb⟩ := c.ex
  exact (pe_meth0 ho c.cl hm F hr hb .nil pass0 ht).run pins s σ H Q I h
end

/-! ### the heap but for one object -/
def Stay (b : Addr) (H H' : Hp) : Prop := ∀ a o, a ≠ b → H a = some o → H' a = some o
theorem Stay.refl (b : Addr) (H : Hp) : Stay b H H := fun _ _ _ h => h
theorem Stay.trans {b : Addr} {H H1 H2 : Hp} (x : Stay b H H1) (y : Stay b H1 H2) : Stay b H H2 := fun a o n h => y a o n (x a o n h)
theorem Stay.of {b : Addr} {H H' : Hp} (s : Same H H') : Stay b H H' := fun a o _ h => s a o h
theorem Stay.upd {b : Addr} {H H' : Hp} {o : HO} (s : Stay b H H') : Stay b H (upd H' b o) := fun a u n h => by rw [upd_ne n]; exact s a u n h
theorem Stay.new {b p : Addr} {H H' : Hp} {o : HO} (s : Stay b H H') (h : H' p = none) : Stay b H (L2.upd H' p o) := fun a u n e => by rw [upd_ne (ne_of_none (s a u n e) h)]; exact s a u n e
/-- the bag of draws: n or fewer were mixed so far -/
def BagAt (H : Hp) (b : Addr) (n : Nat) : Prop := ∃ d m k : Int, H b = some (.lst [.int d, .int m, .int k]) ∧ 0 ≤ m ∧ m < 11529215046069000000 ∧ 0 ≤ k ∧ k ≤ n
theorem BagAt.mono {H : Hp} {b : Addr} {n n' : Nat} (h : BagAt H b n) (l : n ≤ n') : BagAt H b n' := by
  obtain ⟨d, m, k, h1, h2, h3, h4, h5⟩ := h
  exact ⟨d, m, k, h1, h2, h3, h4, by omega⟩
theorem BagAt.same {H H' : Hp} {b : Addr} {n : Nat} (h : BagAt H b n) (s : Same H H') : BagAt H' b n := by
  obtain ⟨d, m, k, h1, h2⟩ := h
  exact ⟨d, m, k, s _ _ h1, h2⟩
/-- _law_bag: a new bag -/
def spBag (K : PySem.W.Frag) : Sp := fun vs H Q _ => ∃ (a : Addr) (ns : List Int) (j : Nat), vs = [.ref a, .int (j : Int)] ∧ SqL K H a (ns.map V.int) ∧ ns.length ≤ 63 ∧ j ≤ 63 ∧ ∀ b H', H b = none → BagAt H' b 0 → Same H H' → Q (.ref b) H'
/-- _law_take -/
def spTake : Sp := fun vs H Q _ => ∃ (b : Addr) (n : Nat) (many : Int), vs = [.ref b, .int many] ∧ BagAt H b n ∧ n < 1000000000 ∧ 0 < many ∧ many.natAbs < 2 ^ 100 ∧ ∀ r H', 0 ≤ r → r < many → BagAt H' b (n + 1) → Stay b H H' → Q (.int r) H'
theorem ix0 {x y z : V} : atI [x, y, z] 0 = some x := rfl
theorem ix1 {x y z : V} : atI [x, y, z] 1 = some y := rfl
theorem ix2 {x y z : V} : atI [x, y, z] 2 = some z := rfl
end Ow

set_option Elab.async false
set_option linter.all false
set_option maxRecDepth 100000
set_option maxHeartbeats 1000000
/-! plain mathematics: symbols, sums by symbols, sorted lists of pairs -/
namespace Ow
open PySem PySem.Spec PyProof.Rows L2

abbrev Ps := List (Str × Int)
def co : Ps → Str → Int
  | [], _ => 0
  | (x, v) :: r, s => (if x = s then v else 0) + co r s
theorem co_append : ∀ (a b : Ps) (s : Str), co (a ++ b) s = co a s + co b s
  | [], b, s => by show co b s = 0 + co b s; omega
  | (x, v) :: r, b, s => by
    show (if x = s then v else 0) + co (r ++ b) s = (if x = s then v else 0) + co r s + co b s
    rw [co_append r b s]
    omega
theorem co_out : ∀ {a : Ps} {s : Str}, s ∉ a.map (·.1) → co a s = 0
  | [], _, _ => rfl
  | (x, v) :: r, s, h => by
    rw [List.map_cons, List.mem_cons, not_or] at h
    show (if x = s then v else 0) + co r s = 0
    rw [if_neg (Ne.symm h.1), co_out h.2]
    rfl
theorem co_in : ∀ {a : Ps} {q : Str × Int}, (a.map (·.1)).Nodup → q ∈ a → co a q.1 = q.2
  | (x, v) :: r, q, hn, hq => by
    rw [List.map_cons, List.nodup_cons] at hn
    show (if x = q.1 then v else 0) + co r q.1 = q.2
    rcases List.mem_cons.mp hq with rfl | hq
    · rw [if_pos rfl, co_out hn.1]
      show v + 0 = v
      omega
    · have : x ≠ q.1 := fun e => hn.1 (e ▸ List.mem_map.mpr ⟨q, hq, rfl⟩)
      rw [if_neg this, co_in hn.2 hq]
      omega
theorem co_perm {a b : Ps} (h : a.Perm b) (s : Str) : co a s = co b s := by
  induction h with
  | nil => rfl
  | cons x _ ih =>
    obtain ⟨y, v⟩ := x
    show (if y = s then v else 0) + co _ s = (if y = s then v else 0) + co _ s
    rw [ih]
  | swap x y l =>
    obtain ⟨x, v⟩ := x
    obtain ⟨y, u⟩ := y
    show (if y = s then u else 0) + ((if x = s then v else 0) + co l s) = (if x = s then v else 0) + ((if y = s then u else 0) + co l s)
    omega
  | trans _ _ i1 i2 => exact i1.trans i2
/-- m with the value of s set -/
def putS : Ps → Str → Int → Ps
  | [], s, v => [(s, v)]
  | (x, u) :: r, s, v => if x = s then (x, v) :: r else (x, u) :: putS r s v
theorem putS_keys : ∀ (m : Ps) (s : Str) (v : Int), (putS m s v).map (·.1) = m.map (·.1) ∨ (s ∉ m.map (·.1) ∧ (putS m s v).map (·.1) = m.map (·.1) ++ [s])
  | [], s, v => .inr ⟨by simp, rfl⟩
  | (x, u) :: r, s, v => by
    unfold putS
    by_cases e : x = s
    · rw [if_pos e]
      exact .inl rfl
    · rw [if_neg e]
      rcases putS_keys r s v with h | ⟨h1, h2⟩
      · exact .inl (by rw [List.map_cons, List.map_cons, h])
      · refine .inr ⟨?_, by rw [List.map_cons, List.map_cons, h2]; rfl⟩
        rw [List.map_cons, List.mem_cons, not_or]
        exact ⟨Ne.symm e, h1⟩
theorem putS_nodup {m : Ps} (s : Str) (v : Int) (h : (m.map (·.1)).Nodup) : ((putS m s v).map (·.1)).Nodup := by
  rcases putS_keys m s v with e | ⟨e1, e2⟩
  · rw [e]; exact h
  · rw [e2, List.nodup_append]
    refine ⟨h, by simp, fun a ha b hb e => ?_⟩
    rw [List.mem_singleton.mp hb] at e
    exact e1 (e ▸ ha)
theorem putS_len (m : Ps) (s : Str) (v : Int) : (putS m s v).length ≤ m.length + 1 := by
  rcases putS_keys m s v with e | ⟨_, e⟩
  · have := congrArg List.length e
    rw [List.length_map, List.length_map] at this
    omega
  · have := congrArg List.length e
    rw [List.length_map, List.length_append, List.length_map] at this
    simp only [List.length_cons, List.length_nil] at this
    omega
theorem putS_mem {m : Ps} {s : Str} {v : Int} {P : Str → Prop} (h : ∀ q ∈ m, P q.1) (hs : P s) : ∀ q ∈ putS m s v, P q.1 := fun q hq => by
  have hk : q.1 ∈ (putS m s v).map (·.1) := List.mem_map.mpr ⟨q, hq, rfl⟩
  have back : ∀ k ∈ m.map (·.1), P k := fun k hk => by
    obtain ⟨q, hq, rfl⟩ := List.mem_map.mp hk
    exact h q hq
  rcases putS_keys m s v with e | ⟨_, e⟩
  · rw [e] at hk
    exact back _ hk
  · rw [e] at hk
    rcases List.mem_append.mp hk with hk | hk
    · exact back _ hk
    · rw [List.mem_singleton.mp hk]
      exact hs
theorem co_putS : ∀ (m : Ps) (s : Str) (v : Int) (t : Str), (m.map (·.1)).Nodup → co (putS m s v) t = if t = s then v else co m t
  | [], s, v, t, _ => by
    show (if s = t then v else 0) + 0 = _
    by_cases e : t = s
    · rw [if_pos e, if_pos e.symm]; omega
    · rw [if_neg e, if_neg (Ne.symm e)]; rfl
  | (x, u) :: r, s, v, t, hn => by
    rw [List.map_cons, List.nodup_cons] at hn
    unfold putS
    by_cases e : x = s
    · rw [if_pos e]
      subst e
      show (if x = t then v else 0) + co r t = if t = x then v else (if x = t then u else 0) + co r t
      by_cases e2 : t = x
      · subst e2
        rw [if_pos rfl, if_pos rfl, co_out hn.1]; omega
      · rw [if_neg e2, if_neg (Ne.symm e2), if_neg (Ne.symm e2)]
    · rw [if_neg e]
      show (if x = t then u else 0) + co (putS r s v) t = if t = s then v else (if x = t then u else 0) + co r t
      rw [co_putS r s v t hn.2]
      by_cases e2 : t = s
      · subst e2
        rw [if_pos rfl, if_pos rfl, if_neg e]; omega
      · rw [if_neg e2, if_neg e2]
/-- as a dict of the layer -/
def kvI (m : Ps) : List (Key × V) := m.map fun p => (Sum.inr p.1, V.int p.2)
theorem kvI_len (m : Ps) : (kvI m).length = m.length := List.length_map _
theorem kvI_any : ∀ (m : Ps) (s : Str), ((kvI m).any fun kv => decide (kv.1 = Sum.inr s)) = decide (s ∈ m.map (·.1))
  | [], s => by simp [kvI]
  | (x, u) :: r, s => by
    show (decide ((Sum.inr x : Key) = Sum.inr s) || (kvI r).any fun kv => decide (kv.1 = Sum.inr s)) = _
    rw [kvI_any r s, key_rr]
    by_cases e : x = s
    · subst e; simp
    · have : ¬ s = x := Ne.symm e
      simp [e, this]
theorem kvI_upd : ∀ (m : Ps) (s : Str) (v : Int), s ∈ m.map (·.1) → (m.map (·.1)).Nodup → (kvI m).map (fun kv => if kv.1 = Sum.inr s then (kv.1, V.int v) else kv) = kvI (putS m s v)
  | (x, u) :: r, s, v, h, hn => by
    rw [List.map_cons, List.nodup_cons] at hn
    show (if (Sum.inr x : Key) = Sum.inr s then ((Sum.inr x : Key), V.int v) else (Sum.inr x, V.int u)) :: (kvI r).map _ = kvI (if x = s then (x, v) :: r else (x, u) :: putS r s v)
    by_cases e : x = s
    · subst e
      rw [if_pos rfl, if_pos rfl]
      have hx : ∀ (l : Ps), x ∉ l.map (·.1) → (kvI l).map (fun kv => if kv.1 = (Sum.inr x : Key) then (kv.1, V.int v) else kv) = kvI l := fun l => by
        induction l with
        | nil => intro _; rfl
        | cons p l ih =>
          obtain ⟨y, z⟩ := p
          intro hl
          rw [List.map_cons, List.mem_cons, not_or] at hl
          show (if (Sum.inr y : Key) = Sum.inr x then ((Sum.inr y : Key), V.int v) else ((Sum.inr y : Key), V.int z)) :: ((kvI l).map fun kv => if kv.1 = (Sum.inr x : Key) then (kv.1, V.int v) else kv) = _
          rw [if_neg (fun q => hl.1 (Sum.inr.inj q).symm), ih hl.2]
          rfl
      rw [hx r hn.1]
      rfl
    · rw [if_neg (fun q => e (Sum.inr.inj q)), if_neg e]
      rw [List.map_cons, List.mem_cons] at h
      rw [kvI_upd r s v (h.resolve_left (Ne.symm e)) hn.2]
      rfl
theorem putS_new : ∀ (m : Ps) (s : Str) (v : Int), s ∉ m.map (·.1) → putS m s v = m ++ [(s, v)]
  | [], _, _, _ => rfl
  | (x, u) :: r, s, v, h => by
    rw [List.map_cons, List.mem_cons, not_or] at h
    unfold putS
    rw [if_neg (Ne.symm h.1), putS_new r s v h.2]
    rfl
theorem kvI_put {m : Ps} (s : Str) (v : Int) (hn : (m.map (·.1)).Nodup) : putK (kvI m) (Sum.inr s) (V.int v) = kvI (putS m s v) := by
  unfold putK
  rw [kvI_any]
  by_cases h : s ∈ m.map (·.1)
  · rw [if_pos (by simpa using h), kvI_upd m s v h hn]
  · rw [if_neg (by simpa using h), putS_new m s v h]
    unfold kvI
    rw [List.map_append]
    rfl
theorem kvI_val : ∀ (m : Ps) (s : Str), (m.map (·.1)).Nodup → (valV (kvI m) (Sum.inr s)).getD (V.int 0) = V.int (co m s)
  | [], s, _ => rfl
  | (x, u) :: r, s, hn => by
    rw [List.map_cons, List.nodup_cons] at hn
    show (valV (((Sum.inr x : Key), V.int u) :: kvI r) (Sum.inr s)).getD (V.int 0) = V.int ((if x = s then u else 0) + co r s)
    by_cases e : x = s
    · subst e
      rw [valV_pos rfl, if_pos rfl, co_out hn.1]
      show V.int u = V.int (u + 0)
      rw [Int.add_zero]
    · rw [valV_neg (fun q => e (Sum.inr.inj q)), if_neg e, kvI_val r s hn.2, Int.zero_add]
theorem kvI_get : ∀ {m : Ps} {s : Str}, (m.map (·.1)).Nodup → s ∈ m.map (·.1) → valV (kvI m) (Sum.inr s) = some (V.int (co m s))
  | (x, u) :: r, s, hn, h => by
    rw [List.map_cons, List.nodup_cons] at hn
    show valV (((Sum.inr x : Key), V.int u) :: kvI r) (Sum.inr s) = some (V.int ((if x = s then u else 0) + co r s))
    by_cases e : x = s
    · subst e
      rw [valV_pos rfl, if_pos rfl, co_out hn.1, Int.add_zero]
    · rw [List.map_cons, List.mem_cons] at h
      rw [valV_neg (fun q => e (Sum.inr.inj q)), if_neg e, kvI_get hn.2 (h.resolve_left (Ne.symm e)), Int.zero_add]
theorem kvI_keys (m : Ps) : (kvI m).map (·.1) = (m.map (·.1)).map Sum.inr := by
  unfold kvI
  rw [List.map_map, List.map_map]
  rfl
/-! ### order -/
theorem lt_irr : ∀ a : List Nat, ltCps a a = false
  | [] => rfl
  | x :: r => by
    show (decide (x < x) || (x == x && ltCps r r)) = false
    rw [lt_irr r]
    simp
theorem lt_tri : ∀ a b : List Nat, ltCps a b = false → ltCps b a = false → a = b
  | [], [], _, _ => rfl
  | [], _ :: _, h, _ => by cases h
  | _ :: _, [], _, h => by cases h
  | x :: r, y :: t, h1, h2 => by
    have h1 : (decide (x < y) || (x == y && ltCps r t)) = false := h1
    have h2 : (decide (y < x) || (y == x && ltCps t r)) = false := h2
    rw [Bool.or_eq_false_iff] at h1 h2
    have e : x = y := by
      have a := of_decide_eq_false h1.1
      have b := of_decide_eq_false h2.1
      omega
    subst e
    have a := h1.2
    have b := h2.2
    simp only [beq_self_eq_true, Bool.true_and] at a b
    rw [lt_tri r t a b]
theorem lt_trans' : ∀ a b c : List Nat, ltCps a b = true → ltCps b c = true → ltCps a c = true
  | [], [], _, h, _ => by cases h
  | [], _ :: _, [], _, h => by cases h
  | [], _ :: _, _ :: _, _, _ => rfl
  | _ :: _, [], _, h, _ => by cases h
  | _ :: _, _ :: _, [], _, h => by cases h
  | x :: r, y :: t, z :: u, h1, h2 => by
    have h1 : (decide (x < y) || (x == y && ltCps r t)) = true := h1
    have h2 : (decide (y < z) || (y == z && ltCps t u)) = true := h2
    show (decide (x < z) || (x == z && ltCps r u)) = true
    rw [Bool.or_eq_true] at h1 h2 ⊢
    rw [Bool.and_eq_true] at h1 h2 ⊢
    rcases h1 with h1 | ⟨h1, g1⟩
    · have h1 := of_decide_eq_true h1
      rcases h2 with h2 | ⟨h2, _⟩
      · have h2 := of_decide_eq_true h2
        exact .inl (decide_eq_true (by omega))
      · have h2 := eq_of_beq h2
        exact .inl (decide_eq_true (by omega))
    · have h1 := eq_of_beq h1
      rcases h2 with h2 | ⟨h2, g2⟩
      · have h2 := of_decide_eq_true h2
        exact .inl (decide_eq_true (by omega))
      · have h2 := eq_of_beq h2
        exact .inr ⟨by rw [h1, h2]; simp, lt_trans' r t u g1 g2⟩
/-- a ≤ b -/
def LeS (a b : Str) : Prop := ltCps b.cps.toList a.cps.toList = false
theorem leS_anti {a b : Str} (h1 : LeS a b) (h2 : LeS b a) : a = b := by
  have := lt_tri _ _ h2 h1
  obtain ⟨a⟩ := a
  obtain ⟨b⟩ := b
  have e : a = b := by
    have h : a.toList = b.toList := this
    exact Array.ext' h
  rw [e]
theorem leS_trans {a b c : Str} (h1 : LeS a b) (h2 : LeS b c) : LeS a c := by
  unfold LeS at *
  cases h : ltCps c.cps.toList a.cps.toList with
  | false => rfl
  | true =>
    exfalso
    cases hab : ltCps a.cps.toList b.cps.toList with
    | true =>
      have := lt_trans' _ _ _ h hab
      rw [this] at h2
      cases h2
    | false =>
      have e := lt_tri _ _ hab h1
      rw [e] at h
      rw [h] at h2
      cases h2
theorem rising_pw : ∀ (p : Str) (l : List Str), risingS p l = true → (p :: l).Pairwise LeS
  | p, [], _ => List.pairwise_singleton _ _
  | p, x :: r, h => by
    have h : (!ltCps x.cps.toList p.cps.toList && risingS x r) = true := h
    rw [Bool.and_eq_true, Bool.not_eq_true'] at h
    have ih := rising_pw x r h.2
    refine List.pairwise_cons.mpr ⟨fun y hy => ?_, ih⟩
    rcases List.mem_cons.mp hy with rfl | hy
    · exact h.1
    · exact leS_trans h.1 ((List.pairwise_cons.mp ih).1 y hy)
theorem sorted_pw {l : List Str} (h : sortedS l = true) : l.Pairwise LeS := by
  cases l with
  | nil => exact List.Pairwise.nil
  | cons x r => exact rising_pw x r h
theorem sorted_one : ∀ {l l' : List Str}, l.Pairwise LeS → l'.Pairwise LeS → l.Perm l' → l = l'
  | [], l', _, _, h => (List.nil_perm.mp h).symm
  | x :: r, [], _, _, h => absurd h.symm (fun q => by have := List.nil_perm.mp q; cases this)
  | x :: r, y :: t, h1, h2, h => by
    have e : x = y := by
      have hx : x ∈ y :: t := h.mem_iff.mp List.mem_cons_self
      have hy : y ∈ x :: r := h.mem_iff.mpr List.mem_cons_self
      rcases List.mem_cons.mp hx with e | hx
      · exact e
      · rcases List.mem_cons.mp hy with e | hy
        · exact e.symm
        · exact leS_anti ((List.pairwise_cons.mp h1).1 y hy) ((List.pairwise_cons.mp h2).1 x hx)
    subst e
    rw [sorted_one (List.pairwise_cons.mp h1).2 (List.pairwise_cons.mp h2).2 (List.perm_cons x |>.mp h)]
/-- the list of a form's or a dict's parts: by symbols, ascending, without noughts -/
structure Can (L : Ps) (g : Str → Int) : Prop where
  srt : (L.map (·.1)).Pairwise LeS
  nd : (L.map (·.1)).Nodup
  nz : ∀ q ∈ L, q.2 ≠ 0
  val : ∀ s, co L s = g s
theorem can_mem {L : Ps} {g : Str → Int} (c : Can L g) (s : Str) : s ∈ L.map (·.1) ↔ g s ≠ 0 := by
  constructor
  · intro h
    obtain ⟨q, hq, rfl⟩ := List.mem_map.mp h
    rw [← c.val, co_in c.nd hq]
    exact c.nz q hq
  · intro h
    refine Classical.byContradiction fun n => h ?_
    rw [← c.val, co_out n]
theorem perm_of_mem : ∀ {l l' : List Str}, l.Nodup → l'.Nodup → (∀ s, s ∈ l ↔ s ∈ l') → l.Perm l' := fun {l l'} n n' h => (List.perm_ext_iff_of_nodup n n').mpr h
theorem ps_of_keys : ∀ {L L' : Ps}, L.map (·.1) = L'.map (·.1) → (L.map (·.1)).Nodup → (∀ s, co L s = co L' s) → L = L'
  | [], [], _, _, _ => rfl
  | [], _ :: _, h, _, _ => by cases h
  | _ :: _, [], h, _, _ => by cases h
  | (x, u) :: r, (y, v) :: t, h, hn, hv => by
    rw [List.map_cons, List.map_cons] at h
    injection h with h1 h2
    simp only at h1
    subst h1
    rw [List.map_cons, List.nodup_cons] at hn
    have hn' : x ∉ t.map (·.1) := by rw [← h2]; exact hn.1
    have e : u = v := by
      have := hv x
      have a : co ((x, u) :: r) x = u := by
        show (if x = x then u else 0) + co r x = u
        rw [if_pos rfl, co_out hn.1]; omega
      have b : co ((x, v) :: t) x = v := by
        show (if x = x then v else 0) + co t x = v
        rw [if_pos rfl, co_out hn']; omega
      rw [a, b] at this
      exact this
    subst e
    rw [ps_of_keys h2 hn.2 fun s => ?_]
    have h3 : (if x = s then u else 0) + co r s = (if x = s then u else 0) + co t s := hv s
    omega
theorem can_one {L L' : Ps} {g g' : Str → Int} (c : Can L g) (c' : Can L' g') (e : ∀ s, g s = g' s) : L = L' := by
  have hk : L.map (·.1) = L'.map (·.1) := sorted_one c.srt c'.srt (perm_of_mem c.nd c'.nd fun s => by rw [can_mem c, can_mem c', e s])
  exact ps_of_keys hk c.nd fun s => by rw [c.val, c'.val, e s]
end Ow

set_option Elab.async false
set_option linter.all false
set_option maxRecDepth 100000
set_option maxHeartbeats 1000000
namespace Ow
open PySem PySem.Spec PyProof.Rows L2
/-! ### symbols -/
def isLc (l : List Nat) : Bool := decide (1 ≤ l.length) && (decide (l.length ≤ 3) && l.all fun c => decide (97 ≤ c) && decide (c ≤ 122))
def isRc : List Nat → Bool
  | 114 :: ds => decide (1 ≤ ds.length) && (decide (ds.length ≤ 60) && ((ds.all fun c => decide (48 ≤ c) && decide (c ≤ 57)) && (ds == [48] || ds.head? != some 48)))
  | _ => false
def isSym (x : Str) : Bool := isLc x.cps.toList || isRc x.cps.toList
theorem sym_r : ∀ n : Fin 1000, isSym (("r" : Str) ++ ((toString ((n.val : Nat) : Int) : String) : Str)) = true := by decide +kernel
theorem sym_small {x : Str} (h : isSym x = true) : x.cps.toList.length ≤ 61 := by
  unfold isSym at h
  rw [Bool.or_eq_true] at h
  rcases h with h | h
  · unfold isLc at h
    simp only [Bool.and_eq_true, decide_eq_true_eq] at h
    omega
  · unfold isRc at h
    split at h
    · rename_i ds e
      simp only [Bool.and_eq_true, decide_eq_true_eq] at h
      rw [e, List.length_cons]
      omega
    · cases h
theorem sym_len {x : Str} (h : isSym x = true) : x.length ≤ sizeLine := by
  have := sym_small h
  rw [Array.length_toList] at this
  exact Nat.le_trans (show x.length ≤ 61 from this) (by decide)
/-- no name of a parameter is a symbol -/
theorem sym_ne {x : Str} (h : isSym x = true) : x ≠ "self" ∧ x ≠ "constant" := by
  constructor
  · rintro rfl
    exact absurd h (by decide +kernel)
  · rintro rfl
    exact absurd h (by decide +kernel)
/-! ### lists of pairs -/
def PairAt (H : Hp) (x : V) (q : Str × Int) : Prop := ∃ t, x = .ref t ∧ H t = some (.tup [.str q.1, .int q.2])
def PairsAt (H : Hp) (l : Addr) (ps : Ps) : Prop := ∃ xs, H l = some (.lst xs) ∧ Paired (PairAt H) xs ps
structure OkPs (ps : Ps) : Prop where
  sym : ∀ q ∈ ps, isSym q.1 = true
  big : ∀ q ∈ ps, q.2.natAbs ≤ 10 ^ 25
theorem PairAt.same {H H' : Hp} {x : V} {q : Str × Int} (h : PairAt H x q) (s : Same H H') : PairAt H' x q := by
  obtain ⟨t, e, h⟩ := h
  exact ⟨t, e, s _ _ h⟩
theorem paired_map {α β : Type} {F G : α → β → Prop} (f : ∀ a b, F a b → G a b) : ∀ {l : List α} {m : List β}, Paired F l m → Paired G l m
  | _, _, .nil => .nil
  | _, _, .cons h r => .cons (f _ _ h) (paired_map f r)
theorem PairsAt.same {H H' : Hp} {l : Addr} {ps : Ps} (h : PairsAt H l ps) (s : Same H H') : PairsAt H' l ps := by
  obtain ⟨xs, e, p⟩ := h
  exact ⟨xs, s _ _ e, paired_map (fun _ _ q => q.same s) p⟩
theorem PairAt.stay {H H' : Hp} {b : Addr} {x : V} {q : Str × Int} (h : PairAt H x q) (s : Stay b H H') (hb : ∃ xs, H b = some (.lst xs)) : PairAt H' x q := by
  obtain ⟨t, e, h⟩ := h
  obtain ⟨ys, hb⟩ := hb
  exact ⟨t, e, s _ _ (ne_of h hb (by intro z; cases z)) h⟩
theorem BagAt.lst {H : Hp} {b : Addr} {n : Nat} (h : BagAt H b n) : ∃ xs, H b = some (.lst xs) := by
  obtain ⟨d, m, k, h, _⟩ := h
  exact ⟨_, h⟩
theorem PairsAt.stay {H H' : Hp} {b l : Addr} {ps : Ps} (h : PairsAt H l ps) (s : Stay b H H') (hb : ∃ xs, H b = some (.lst xs)) (ne : l ≠ b) : PairsAt H' l ps := by
  obtain ⟨xs, e, p⟩ := h
  exact ⟨xs, s _ _ ne e, paired_map (fun _ _ q => q.stay s hb) p⟩
/-! ### the promises of the draws -/
def spNumber : Sp := fun vs H Q _ => ∃ (b : Addr) (n : Nat), vs = [.ref b] ∧ BagAt H b n ∧ n < 900000000 ∧ ∀ v H', v.natAbs ≤ 10 ^ 25 → BagAt H' b (n + 2) → Stay b H H' → Q (.int v) H'
def spSymbol : Sp := fun vs H Q _ => ∃ (b : Addr) (n : Nat), vs = [.ref b] ∧ BagAt H b n ∧ n < 900000000 ∧ ∀ x H', isSym x = true → BagAt H' b (n + 10) → Stay b H H' → Q (.str x) H'
def spPairs : Sp := fun vs H Q _ => ∃ (b : Addr) (n : Nat) (many : Nat), vs = [.ref b, .int (many : Int)] ∧ BagAt H b n ∧ n < 800000000 ∧ 0 < many ∧ many ≤ 64 ∧
  ∀ l ps H', l ≠ b → H l = none → PairsAt H' l ps → OkPs ps → ps.length < many → BagAt H' b (n + 2000) → Stay b H H' → Q (.ref l) H'
end Ow

set_option Elab.async false
set_option linter.all false
set_option maxRecDepth 100000
set_option maxHeartbeats 1000000
namespace Ow
open PySem PySem.Spec PyProof.Rows L2
/-! ### data of pairs -/
theorem sym_cps {x : Str} (h : isSym x = true) : ∀ c ∈ x.cps.toList, c < 1114112 := by
  unfold isSym at h
  rw [Bool.or_eq_true] at h
  rcases h with h | h
  · unfold isLc at h
    simp only [Bool.and_eq_true, decide_eq_true_eq, List.all_eq_true] at h
    intro c hc
    have := h.2.2 c hc
    omega
  · unfold isRc at h
    split at h
    · rename_i ds e
      simp only [Bool.and_eq_true, decide_eq_true_eq, List.all_eq_true] at h
      intro c hc
      rw [e] at hc
      rcases List.mem_cons.mp hc with rfl | hc
      · decide
      · have := h.2.2.1 c hc
        omega
    · cases h
theorem sym_ok {x : Str} (h : isSym x = true) : PyData.strOk x = true := by
  unfold PyData.strOk
  rw [← Array.all_toList, List.all_eq_true]
  exact fun c hc => decide_eq_true (sym_cps h c hc)
def datP (ps : Ps) : List PyData := ps.map fun q => .tuple [.str q.1, .int q.2]
theorem dpAll_ps {K : PySem.W.Frag} {H : Hp} : ∀ {xs : List V} {ps : Ps}, Paired (PairAt H) xs ps → DpAll K H xs (datP ps)
  | _, _, .nil => .nil
  | _, _, .cons h r => by
    obtain ⟨t, rfl, h⟩ := h
    exact .cons (.tup (SqT.of h) (.cons (.str _) (.cons (.int _) .nil))) (dpAll_ps r)
theorem can_ps : ∀ {ps : Ps}, (∀ q ∈ ps, isSym q.1 = true) → PyData.canLayAll0 (datP ps) = true
  | [], _ => rfl
  | q :: ps, h => by
    show ((PyData.strOk q.1 && (true && true)) && PyData.canLayAll0 (datP ps)) = true
    rw [sym_ok (h q List.mem_cons_self), can_ps fun p hp => h p (List.mem_cons_of_mem _ hp)]
    rfl
theorem depth_ps : ∀ (ps : Ps), PyData.depthAll (datP ps) ≤ 1
  | [] => Nat.zero_le _
  | q :: ps => by
    show max (PyData.depth (.tuple [.str q.1, .int q.2])) (PyData.depthAll (datP ps)) ≤ 1
    have h1 : PyData.depth (.tuple [.str q.1, .int q.2]) = 1 := by simp [PyData.depth, PyData.depthAll]
    have h2 := depth_ps ps
    omega
theorem shapedL {ps : Ps} (h : ∀ q ∈ ps, isSym q.1 = true) : SeqAt.shaped (.list (datP ps)) = true := by
  unfold SeqAt.shaped
  rw [Bool.and_eq_true]
  refine ⟨can_ps h, decide_eq_true ?_⟩
  have := depth_ps ps
  show PyData.depthAll (datP ps) + 1 ≤ 64
  omega
def datW (c : Int) (ps : Ps) : PyData := .tuple [.int c, .tuple (datP ps)]
theorem shapedW (c : Int) {ps : Ps} (h : ∀ q ∈ ps, isSym q.1 = true) : SeqAt.shaped (datW c ps) = true := by
  unfold SeqAt.shaped
  rw [Bool.and_eq_true]
  refine ⟨?_, decide_eq_true ?_⟩
  · show (true && (PyData.canLayAll0 (datP ps) && true)) = true
    rw [can_ps h]
    rfl
  · have h2 := depth_ps ps
    have h1 : PyData.depth (datW c ps) = PyData.depthAll (datP ps) + 1 + 1 := by simp [datW, PyData.depth, PyData.depthAll]
    omega
theorem eqvW (c : Int) {ps : Ps} (h : ∀ q ∈ ps, isSym q.1 = true) : PyData.eqv (datW c ps) (datW c ps) = true := SeqAt.eqv_refl _ (SeqAt.canLay_of_shaped (shapedW c h))
theorem eqv_nil (ps : Ps) : PyData.eqv (.list (datP ps)) (.list []) = ps.isEmpty := by
  cases ps <;> rfl
/-- a tuple (constant, pairs) in the heap -/
def WrAt (H : Hp) (x : V) (c : Int) (ps : Ps) : Prop := ∃ a b xs, x = .ref a ∧ H a = some (.tup [.int c, .ref b]) ∧ H b = some (.tup xs) ∧ Paired (PairAt H) xs ps
theorem WrAt.dp {K : PySem.W.Frag} {H : Hp} {x : V} {c : Int} {ps : Ps} (h : WrAt H x c ps) : Dp K H x (datW c ps) := by
  obtain ⟨a, b, xs, rfl, ha, hb, hp⟩ := h
  exact .tup (SqT.of ha) (.cons (.int _) (.cons (.tup (SqT.of hb) (dpAll_ps hp)) .nil))
theorem WrAt.same {H H' : Hp} {x : V} {c : Int} {ps : Ps} (h : WrAt H x c ps) (s : Same H H') : WrAt H' x c ps := by
  obtain ⟨a, b, xs, rfl, ha, hb, hp⟩ := h
  exact ⟨a, b, xs, rfl, s _ _ ha, s _ _ hb, paired_map (fun _ _ q => q.same s) hp⟩
theorem paired_len {α β : Type} {F : α → β → Prop} : ∀ {l : List α} {m : List β}, Paired F l m → l.length = m.length
  | _, _, .nil => rfl
  | _, _, .cons _ r => by rw [List.length_cons, List.length_cons, paired_len r]
theorem paired_at {α β : Type} {F : α → β → Prop} : ∀ {l : List α} {m : List β} {i : Nat} {x : α}, Paired F l m → l[i]? = some x → ∃ y, m[i]? = some y ∧ F x y
  | _, _, 0, _, .cons h r, e => by
    cases e
    exact ⟨_, rfl, h⟩
  | _, _, i + 1, _, .cons h r, e => by
    rw [List.getElem?_cons_succ] at e
    obtain ⟨y, e', h'⟩ := paired_at r e
    exact ⟨y, by rw [List.getElem?_cons_succ]; exact e', h'⟩
theorem paired_snoc {α β : Type} {F : α → β → Prop} {x : α} {y : β} (h : F x y) : ∀ {l : List α} {m : List β}, Paired F l m → Paired F (l ++ [x]) (m ++ [y])
  | _, _, .nil => .cons h .nil
  | _, _, .cons g r => .cons g (paired_snoc h r)
/-- one pair more -/
theorem pairs_push {H : Hp} {l t : Addr} {ps : Ps} {x : Str} {v : Int} (h : PairsAt H l ps) (ht : H t = none) :
    ∃ xs, (upd H t (.tup [.str x, .int v])) l = some (.lst xs) ∧ xs.length = ps.length ∧ PairsAt (upd (upd H t (.tup [.str x, .int v])) l (.lst (xs ++ [.ref t]))) l (ps ++ [(x, v)]) := by
  obtain ⟨xs, hx, hp⟩ := h
  have tl : t ≠ l := fun z => by rw [z, hx] at ht; cases ht
  refine ⟨xs, (upd_ne tl.symm).trans hx, paired_len hp, xs ++ [.ref t], upd_same, paired_snoc ⟨t, rfl, (upd_ne tl).trans upd_same⟩ (paired_map (fun y q hq => ?_) hp)⟩
  obtain ⟨u, rfl, hu⟩ := hq
  exact ⟨u, rfl, (upd_ne (ne_of hu hx (by intro z; cases z))).trans ((upd_ne (ne_of_none hu ht)).trans hu)⟩
theorem BagAt.upd {H : Hp} {b t : Addr} {n : Nat} {o : HO} (h : BagAt H b n) (ne : b ≠ t) : BagAt (L2.upd H t o) b n := by
  obtain ⟨d, m, k, h1, h2⟩ := h
  exact ⟨d, m, k, (upd_ne ne).trans h1, h2⟩
end Ow

set_option Elab.async false
set_option linter.all false
set_option maxRecDepth 100000
set_option maxHeartbeats 1000000
namespace Ow
open PySem PySem.Spec PyProof.Rows L2
structure DictAt (H : Hp) (d : Addr) (m : Ps) : Prop where
  at_ : H d = some (.dK (kvI m))
  nd : (m.map (·.1)).Nodup
  sym : ∀ q ∈ m, isSym q.1 = true
theorem DictAt.same {H H' : Hp} {d : Addr} {m : Ps} (h : DictAt H d m) (s : Same H H') : DictAt H' d m := ⟨s _ _ h.at_, h.nd, h.sym⟩
theorem DictAt.new {H : Hp} {d : Addr} : DictAt (upd H d (.dK [])) d [] := ⟨upd_same, List.nodup_nil, fun q h => (by cases h)⟩
theorem DictAt.put {H : Hp} {d : Addr} {m : Ps} (h : DictAt H d m) (x : Str) (v : Int) (hx : isSym x = true) : DictAt (upd H d (.dK (putK (kvI m) (Sum.inr x) (V.int v)))) d (putS m x v) :=
  ⟨by rw [upd_same, kvI_put x v h.nd], putS_nodup x v h.nd, putS_mem (P := fun s => isSym s = true) h.sym hx⟩
theorem same_new {H H' : Hp} {d : Addr} {o : HO} (s : Same H H') (h : H' d = none) : Same H (upd H' d o) := fun a u e => (upd_ne (ne_of_none (s a u e) h)).trans (s a u e)
theorem same_over {H H' : Hp} {d : Addr} {o : HO} (s : Same H H') (h : H d = none) : Same H (upd H' d o) := fun a u e => (upd_ne (ne_of_none e h)).trans (s a u e)
theorem same_trans {H H' H2 : Hp} (s : Same H H') (t : Same H' H2) : Same H H2 := fun a u e => t a u (s a u e)
def spSums : Sp := fun vs H Q _ => ∃ (l : Addr) (ps : Ps), vs = [.ref l] ∧ PairsAt H l ps ∧ OkPs ps ∧ ps.length < 32 ∧
  ∀ d m H', H d = none → DictAt H' d m → m.length ≤ ps.length → (∀ s, co m s = co ps s) → Same H H' → Q (.ref d) H'
def spWritten : Sp := fun vs H Q _ => ∃ (c : Int) (d : Addr) (m : Ps), vs = [.int c, .ref d] ∧ DictAt H d m ∧ m.length < 64 ∧
  ∀ x L H', WrAt H' x c L → Can L (co m) → (∀ q ∈ L, isSym q.1 = true) → Same H H' → Q x H'
def spBoth : Sp := fun vs H Q _ => ∃ (a b : Addr) (m1 m2 : Ps) (k : Int), vs = [.ref a, .ref b, .int k] ∧ DictAt H a m1 ∧ DictAt H b m2 ∧ m1.length < 30 ∧ m2.length < 30 ∧ (k = 1 ∨ k = -1) ∧
  ∀ d m H', H d = none → DictAt H' d m → m.length ≤ m1.length + m2.length → (∀ s, co m s = co m1 s + k * co m2 s) → Same H H' → Q (.ref d) H'
theorem co_snoc (a : Ps) (x : Str) (v : Int) (s : Str) : co (a ++ [(x, v)]) s = co a s + if s = x then v else 0 := by
  rw [co_append]
  show co a s + co [(x, v)] s = _
  congr 1
  show (if x = s then v else 0) + 0 = _
  by_cases e : s = x
  · rw [if_pos e, if_pos e.symm]
    omega
  · rw [if_neg e, if_neg fun z => e z.symm]
    omega
theorem take_snoc {ps : Ps} {i : Nat} {q : Str × Int} (h : ps[i]? = some q) : ps.take (i + 1) = ps.take i ++ [q] := by
  rw [List.take_add_one, h]
  rfl
theorem mergeK_kvI : ∀ (b a : Ps), ((a ++ b).map (·.1)).Nodup → mergeK (kvI a) (kvI b) = kvI (a ++ b)
  | [], a, _ => by rw [List.append_nil]; rfl
  | (x, v) :: b, a, h => by
    have hx : x ∉ a.map (·.1) := fun hx => by
      rw [List.map_append, List.nodup_append] at h
      exact h.2.2 x hx x (by simp) rfl
    have e : (a ++ (x, v) :: b) = (a ++ [(x, v)]) ++ b := by simp
    have ha : (a.map (·.1)).Nodup := by
      rw [List.map_append, List.nodup_append] at h
      exact h.1
    rw [e] at h ⊢
    rw [← mergeK_kvI b (a ++ [(x, v)]) h, ← putS_new a x v hx, ← kvI_put x v ha]
    rfl
theorem same_unlock {H H' : Hp} {b : Addr} {o : Obj} {u : HO} (hb : H b = some u) (s : Same (upd H b (.frz o u)) H') : Same H (upd H' b u) := fun a x e => by
  by_cases z : a = b
  · subst z
    rw [upd_same, ← hb, e]
  · rw [upd_ne z]
    exact s a x ((upd_ne z).trans e)
theorem dget_r {H : Hp} {d : Addr} {m : Ps} {y : Str} (r : Rd H d (.dK (kvI m))) (nd : (m.map (·.1)).Nodup) (hy : y ∈ m.map (·.1)) : DGet H d (.str y) (some (.int (co m y))) :=
  .inl ⟨kvI m, Sum.inr y, r, rfl, (kvI_get nd hy).symm⟩
/-! ### the pairs of symbols in order, without noughts -/
def canL (ys : List Str) (g : Str → Int) : Ps := (ys.map fun s => (s, g s)).filter fun q => decide (q.2 ≠ 0)
theorem canL_keys : ∀ (ys : List Str) (g : Str → Int), (canL ys g).map (·.1) = ys.filter fun s => decide (g s ≠ 0)
  | [], _ => rfl
  | y :: ys, g => by
    have ih := canL_keys ys g
    unfold canL at ih ⊢
    rw [List.map_cons, List.filter_cons, List.filter_cons]
    by_cases e : decide (g y ≠ 0) = true
    · rw [if_pos e, if_pos e, List.map_cons, ih]
    · rw [if_neg e, if_neg e, ih]
theorem canL_mem {ys : List Str} {g : Str → Int} {q : Str × Int} (h : q ∈ canL ys g) : q.1 ∈ ys ∧ q.2 = g q.1 ∧ q.2 ≠ 0 := by
  unfold canL at h
  obtain ⟨h1, h2⟩ := List.mem_filter.mp h
  obtain ⟨s, hs, rfl⟩ := List.mem_map.mp h1
  exact ⟨hs, rfl, of_decide_eq_true h2⟩
theorem canL_can {ys : List Str} {g : Str → Int} (h1 : ys.Pairwise LeS) (h2 : ys.Nodup) (h3 : ∀ s, g s ≠ 0 → s ∈ ys) : Can (canL ys g) g := by
  have nd : ((canL ys g).map (·.1)).Nodup := by
    rw [canL_keys]
    exact h2.sublist List.filter_sublist
  refine ⟨?_, nd, fun q hq => (canL_mem hq).2.2, fun s => ?_⟩
  · rw [canL_keys]
    exact h1.sublist List.filter_sublist
  · by_cases e : g s = 0
    · rw [e]
      refine co_out fun hs => ?_
      obtain ⟨q, hq, rfl⟩ := List.mem_map.mp hs
      have := canL_mem hq
      exact this.2.2 (this.2.1.trans e)
    · have hs : (s, g s) ∈ canL ys g := by
        unfold canL
        exact List.mem_filter.mpr ⟨List.mem_map.mpr ⟨s, h3 s e, rfl⟩, decide_eq_true e⟩
      exact co_in nd hs
theorem canL_take {ys : List Str} {g : Str → Int} {i : Nat} {y : Str} (h : ys[i]? = some y) : canL (ys.take (i + 1)) g = canL (ys.take i) g ++ if g y = 0 then [] else [(y, g y)] := by
  unfold canL
  rw [List.take_add_one, h, List.map_append, List.filter_append]
  congr 1
  by_cases e : g y = 0
  · rw [if_pos e]
    simp [e]
  · rw [if_neg e]
    simp [e]
theorem canL_len (ys : List Str) (g : Str → Int) : (canL ys g).length ≤ ys.length := by
  unfold canL
  exact Nat.le_trans (List.length_filter_le _ _) (by rw [List.length_map]; exact Nat.le_refl _)
theorem push_lc {H : Hp} {l t : Addr} {acc : List V} {L : Ps} {x : Str} {v : Int} (hx : H l = some (.lst acc)) (hp : Paired (PairAt H) acc L) (ht : H t = none) :
    upd H t (.tup [.str x, .int v]) l = some (.lst acc) ∧ Paired (PairAt (upd (upd H t (.tup [.str x, .int v])) l (.lst (acc ++ [.ref t])))) (acc ++ [.ref t]) (L ++ [(x, v)]) := by
  have tl : t ≠ l := fun z => by rw [z, hx] at ht; cases ht
  refine ⟨(upd_ne tl.symm).trans hx, paired_snoc ⟨t, rfl, (upd_ne tl).trans upd_same⟩ (paired_map (fun y q hq => ?_) hp)⟩
  obtain ⟨u, rfl, hu⟩ := hq
  exact ⟨u, rfl, (upd_ne (ne_of hu hx (by intro z; cases z))).trans ((upd_ne (ne_of_none hu ht)).trans hu)⟩
theorem kvI_at {m : Ps} {i : Nat} {k : Key} {v : V} (h : (kvI m)[i]? = some (k, v)) : ∃ q, m[i]? = some q ∧ k = Sum.inr q.1 ∧ v = .int q.2 := by
  unfold kvI at h
  rw [List.getElem?_map] at h
  cases e : m[i]? with
  | none => rw [e] at h; cases h
  | some q => rw [e] at h; cases h; exact ⟨q, rfl, rfl, rfl⟩
theorem pair_addr {H : Hp} : ∀ {acc : List V} {L : Ps}, Paired (PairAt H) acc L → ∃ ps : List Addr, acc = ps.map V.ref ∧ Paired (fun p (kv : Key × V) => H p = some (.tup [kV kv.1, kv.2])) ps (kvI L)
  | _, _, .nil => ⟨[], rfl, .nil⟩
  | _, _, .cons h r => by
    obtain ⟨t, rfl, ht⟩ := h
    obtain ⟨ps, rfl, hp⟩ := pair_addr r
    exact ⟨t :: ps, rfl, .cons ht hp⟩
theorem str_at {ys : List Str} {i : Nat} {x : V} (h : (ys.map V.str)[i]? = some x) : ∃ y, ys[i]? = some y ∧ x = .str y := by
  rw [List.getElem?_map] at h
  cases e : ys[i]? with
  | none => rw [e] at h; cases h
  | some y => rw [e] at h; exact ⟨y, rfl, (Option.some.inj h).symm⟩
theorem wr_new {H : Hp} {acc : List V} {L : Ps} {l x : Addr} {c : Int} (hp : Paired (PairAt H) acc L) (hl : H l = none) (hx : upd H l (.tup acc) x = none) : WrAt (upd (upd H l (.tup acc)) x (.tup [.int c, .ref l])) (.ref x) c L := by
  have ne : l ≠ x := fun z => by rw [z, upd_same] at hx; cases hx
  exact ⟨x, l, acc, rfl, upd_same, (upd_ne ne).trans upd_same, paired_map (fun _ _ q => q.same (same_new (same_new (fun _ _ e => e) hl) hx)) hp⟩
end Ow

set_option Elab.async false
set_option linter.all false
set_option maxRecDepth 100000
set_option maxHeartbeats 1000000
namespace Ow
open PySem PySem.Spec PyProof.Rows L2
section
variable {X : Cx} {x z : Str} {n : Int} {pos : Pos}
theorem pe_globS (hg : Gl X x) (hm : ∃ t, X.mg x = some (.str z t)) (hd : (x == ("__debug__" : Str)) = false := by decide) : PE X (.Name x pos) (tC (.str z)) := by
  obtain ⟨t, hm⟩ := hm
  exact pe_glob hg hm ⟨t, rfl⟩ hd
theorem pe_globI (hg : Gl X x) (hm : ∃ t, X.mg x = some (.int n t)) (hd : (x == ("__debug__" : Str)) = false := by decide) : PE X (.Name x pos) (tC (.int n)) := by
  obtain ⟨t, hm⟩ := hm
  exact pe_glob hg hm ⟨t, rfl⟩ hd
end
theorem starts1 (x : Str) (c : Nat) : Txt.startswith x ⟨#[c]⟩ = (x.cps.toList.head? == some c) := by
  obtain ⟨⟨l⟩⟩ := x
  cases l with
  | nil => rfl
  | cons a l =>
    unfold Txt.startswith Builtin.Str.subAt
    have h1 : (⟨⟨a :: l⟩⟩ : Str).length = l.length + 1 := rfl
    have h2 : (⟨#[c]⟩ : Str).length = 1 := rfl
    rw [h1, h2]
    simp
theorem tail1 (x : Str) : cutS x (some 1) none = ⟨(x.cps.toList.drop 1).toArray⟩ := by
  obtain ⟨⟨l⟩⟩ := x
  unfold cutS
  have h1 : (⟨⟨l⟩⟩ : Str).length = l.length := rfl
  rw [h1, HT.sIx_none, show (1 : Int) = ((1 : Nat) : Int) from rfl, HT.sIx_nat]
  cases l with
  | nil => rfl
  | cons a l =>
    have : min 1 (a :: l).length = 1 := by simp
    rw [this]
    simp
def abcL : Str := "abcdefghijklmnopqrstuvwxyz"
def digL : Str := "0123456789"
theorem abc_list : abcL.cps.toList = List.range' 97 26 := by decide +kernel
theorem dig_list : digL.cps.toList = List.range' 48 10 := by decide +kernel
theorem abc_mem (c : Nat) : decide (c ∈ abcL.cps.toList) = (decide (97 ≤ c) && decide (c ≤ 122)) := by
  rw [abc_list, Bool.eq_iff_iff]
  simp only [decide_eq_true_eq, Bool.and_eq_true, List.mem_range'_1]
  omega
theorem dig_mem (c : Nat) : decide (c ∈ digL.cps.toList) = (decide (48 ≤ c) && decide (c ≤ 57)) := by
  rw [dig_list, Bool.eq_iff_iff]
  simp only [decide_eq_true_eq, Bool.and_eq_true, List.mem_range'_1]
  omega
theorem isRc_eq (l : List Nat) : isRc l = ((l.head? == some 114) && (decide (1 ≤ (l.drop 1).length) && (decide ((l.drop 1).length ≤ 60) && (((l.drop 1).all fun c => decide (48 ≤ c) && decide (c ≤ 57)) && ((l.drop 1) == [48] || (l.drop 1).head? != some 48))))) := by
  unfold isRc
  split
  · rfl
  · rename_i h
    cases l with
    | nil => rfl
    | cons a l =>
      have : ¬ a = 114 := fun z => h l (by rw [z])
      show false = ((some a == some 114) && _)
      have e : (some a == some 114) = false := by simp [this]
      rw [e]
      rfl
theorem str_eq_of {x y : Str} (h : x.cps.toList = y.cps.toList) : x = y := by
  obtain ⟨⟨l⟩⟩ := x
  obtain ⟨⟨l'⟩⟩ := y
  cases (show l = l' from h)
  rfl
def spIsL : Sp := fun vs H Q _ => ∃ x : Str, vs = [.str x] ∧ x.length ≤ sizeLine ∧ ∀ H', Same H H' → Q (.bl (isLc x.cps.toList)) H'
def spIsR : Sp := fun vs H Q _ => ∃ x : Str, vs = [.str x] ∧ x.length ≤ sizeLine ∧ ∀ H', Same H H' → Q (.bl (isRc x.cps.toList)) H'
def spIsS : Sp := fun vs H Q _ => ∃ x : Str, vs = [.str x] ∧ x.length ≤ sizeLine ∧ ∀ H', Same H H' → Q (.bl (isSym x)) H'
end Ow

set_option Elab.async false
set_option linter.all false
set_option maxRecDepth 100000
set_option maxHeartbeats 4000000
namespace Ow
open PySem PySem.Spec PyProof.Rows L2
def top (i : Nat) : Stmt := PySem.Challenge.pw_owedanswers_k17_errors_made.main.body.getD i (.Pass ⟨0, 0, 0, 0⟩)
structure Txt (mg : Str → Option Value) : Prop where
  n_len : mg "len" = none
  n_abs : mg "abs" = none
  n_int : mg "int" = none
  n_str : mg "str" = none
  n_min : mg "min" = none
  n_max : mg "max" = none
  n_all : mg "all" = none
  n_range : mg "range" = none
  n_sorted : mg "sorted" = none
  n_list : mg "list" = none
  n_tuple : mg "tuple" = none
  n_dict : mg "dict" = none
  n_isinstance : mg "isinstance" = none
  n_sum : mg "sum" = none
local macro_rules | `(tactic| walk_at "rd") => `(tactic| repeat (first | (refine ⟨_, rfl, ?_⟩) | (refine ⟨_, _, rfl, rfl, ?_⟩) | (refine Or.inl ⟨_, rfl, ?_⟩) | (refine ⟨(by first | (show (0 : Int) < (_ : Int); decide) | exact Or.inl ⟨by decide, by decide⟩ | exact Or.inr ⟨by decide, by decide⟩ | exact ⟨by decide, by decide⟩ | exact ⟨by decide, by decide, by decide⟩), ?_⟩)))
section
variable {P : Program} {w : World} {K : PySem.W.Frag} {mg : Str → Option Value} {base : Heap}
abbrev s_law_bag : Stmt := top 18
theorem sc_law_bag : FnScope ["script", "place", "cell", "digits"] ["script", "place"] (defScope s_law_bag) := ⟨rfl, rfl, rfl, by decide +kernel, rfl, by decide +kernel, by decide +kernel⟩
theorem ok_bag {f : Addr} {fd : FuncData} (F : Fun K "_law_bag" "_law_bag" s_law_bag f fd) (T : Txt mg) : FnOk P w K mg base CX0 1 f fd ["script", "place"] (spBag K) := by
  refine F.ok sc_law_bag (fun vs H Q E h => ?_) (fun cdv A outer s H vs Q E hr h => ?_)
  · obtain ⟨a, ns, j, rfl, _⟩ := h
    rfl
  · obtain ⟨a, ns, j, rfl, hS, hl, hj, k⟩ := h
    have hu := hu_of hr
    refine ⟨_, (pss_cons (ps_set (i := 2) sc_law_bag.nd rfl (Or.inl rfl) (pe_ifExp (pt_cmpR op_lt (pv 1) (pe_callB call_len_seq (by rfl) T.n_len (by decide +kernel) (pa_cons (pv 0) pa_nil)) (nomark _)) (pe_ix ix_list (pv 0) (pv 1) (fun _ _ => rfl)) pe_int))
      (pss_cons (ps_set (i := 3) sc_law_bag.nd rfl (Or.inl rfl) (pe_ifExp (pt_cmpR op_ge (pe_callB call_abs (by rfl) T.n_abs (by decide +kernel) (pa_cons (pv 2) pa_nil)) (pe_op op_pow pe_int pe_int) (nomark _)) (pe_callB call_abs (by rfl) T.n_abs (by decide +kernel) (pa_cons (pv 2) pa_nil)) pe_int))
      (pss_one (ps_ret (pe_lst (pa_cons (pv 3) (pa_cons (pe_op op_add (pe_op op_add (pe_op op_mul (pe_op op_mod (pe_callTy call_int1 (by rfl) T.n_int (by decide +kernel) (pa_cons (pv 2) pa_nil)) pe_int) pe_int) (pe_op op_mul pe_int (pv 1))) pe_int) (pa_cons pe_int pa_nil)))))))), ?_⟩
    refine ⟨_, rfl, _, rfl, a, _, rfl, .inl hS, _, _, rfl, rfl, _, rfl, ?_⟩
    refine ite2 (fun h => ?_) (fun h => ?_)
    · have hj' : j < ns.length := by
        have h := of_decide_eq_true h
        rw [List.length_map] at h
        omega
      refine ⟨_, rfl, _, rfl, a, _, _, _, rfl, rfl, hS, atI_nat (j := j) (v := .int ns[j]) (by rw [List.getElem?_map, List.getElem?_eq_getElem hj']; rfl), ?_⟩
      generalize ns[j] = cell
      walk_at "rd"
      refine ite2 (fun h => ?_) (fun h => ?_)
      all_goals
        walk_at "rd"
        refine ⟨by show 3 ≤ sizeLine; decide, fun b hb => k b _ hb ⟨_, _, _, upd_same, ?_, ?_, Int.le_refl 0, Int.le_refl 0⟩ fun a o e => (upd_ne (ne_of_none e hb)).trans e⟩
        · have := Int.emod_nonneg cell (show (2305843009213693951 : Int) ≠ 0 by decide)
          omega
        · have := Int.emod_lt_of_pos cell (show (0 : Int) < 2305843009213693951 by decide)
          omega
    · walk_at "rd"
      refine ⟨by show 3 ≤ sizeLine; decide, fun b hb => k b _ hb ⟨_, _, _, upd_same, ?_, ?_, Int.le_refl 0, Int.le_refl 0⟩ fun a o e => (upd_ne (ne_of_none e hb)).trans e⟩
      · omega
      · omega
abbrev s_law_take : Stmt := top 19
theorem sc_law_take : FnScope ["bag", "many", "mixed", "digit"] ["bag", "many"] (defScope s_law_take) := ⟨rfl, rfl, rfl, by decide +kernel, rfl, by decide +kernel, by decide +kernel⟩
theorem ok_take {f : Addr} {fd : FuncData} (F : Fun K "_law_take" "_law_take" s_law_take f fd) (T : Txt mg) : FnOk P w K mg base CX0 1 f fd ["bag", "many"] spTake := by
  refine F.ok sc_law_take (fun vs H Q E h => ?_) (fun cdv A outer s H vs Q E hr h => ?_)
  · obtain ⟨b, n, many, rfl, _⟩ := h
    rfl
  · obtain ⟨b, n, many, rfl, ⟨d, m, c, hb, h1, h2, h3, h4⟩, hn, hm, hz, k⟩ := h
    have hu := hu_of hr
    refine ⟨_, (pss_cons (ps_if (pt_cmpR op_gt (pe_ix ix_list (pv 0) pe_int (fun _ _ => rfl)) pe_int (nomark _)) (pss_cons (ps_set (i := 3) sc_law_take.nd rfl (Or.inl rfl) (pe_op op_mod (pe_callTy call_int1 (by rfl) T.n_int (by decide +kernel) (pa_cons (pe_ix ix_list (pv 0) pe_int (fun _ _ => rfl)) pa_nil)) (pv 1)))
      (pss_cons (ps_asg (pe_op op_fdivW (pe_ix ix_list (pv 0) pe_int (fun _ _ => rfl)) (pv 1)) (pg_sub (pv 0) pe_int set_list))
      (pss_one (ps_ret (pv 3))))) pss_nil)
      (pss_cons (ps_asg (pe_op op_add (pe_ix ix_list (pv 0) pe_int (fun _ _ => rfl)) pe_int) (pg_sub (pv 0) pe_int set_list))
      (pss_cons (ps_set (i := 2) sc_law_take.nd rfl (Or.inl rfl) (pe_op op_mod (pe_callTy call_int1 (by rfl) T.n_int (by decide +kernel) (pa_cons (pe_op op_pow (pe_op op_add (pe_ix ix_list (pv 0) pe_int (fun _ _ => rfl)) (pe_op op_mul pe_int (pe_ix ix_list (pv 0) pe_int (fun _ _ => rfl)))) pe_int) pa_nil)) pe_int))
      (pss_cons (ps_set (i := 2) sc_law_take.nd rfl (Or.inl rfl) (pe_op op_mod (pe_callTy call_int1 (by rfl) T.n_int (by decide +kernel) (pa_cons (pe_op op_pow (pe_op op_add (pv 2) (pe_op op_mul pe_int (pe_ix ix_list (pv 0) pe_int (fun _ _ => rfl)))) pe_int) pa_nil)) pe_int))
      (pss_one (ps_ret (pe_op op_mod (pe_callTy call_int1 (by rfl) T.n_int (by decide +kernel) (pa_cons (pe_op op_fdiv (pv 2) pe_int) pa_nil)) (pv 1)))))))), ?_⟩
    have hS : SqL K H b [.int d, .int m, .int c] := SqL.of hb
    refine ⟨_, rfl, b, _, 0, _, rfl, rfl, hS, ix0, ?_⟩
    walk_at "rd"
    refine ite2 (fun h => ?_) (fun h => ?_)
    · refine ⟨_, rfl, b, _, 0, _, rfl, rfl, hS, ix0, ?_⟩
      walk_at "rd"
      refine ⟨hm, ?_⟩
      refine ⟨_, rfl, b, _, 0, _, rfl, rfl, hS, ix0, ?_⟩
      walk_at "rd"
      refine ⟨wide_div hm hz (by decide) (by decide), ?_⟩
      walk_at "rd"
      refine ⟨b, _, 0, 0, rfl, rfl, hb, rfl, ?_⟩
      walk_at "rd"
      exact k _ _ (Int.emod_nonneg _ (Int.ne_of_gt hm)) (Int.emod_lt_of_pos _ hm) ⟨_, _, _, upd_same, h1, h2, h3, by omega⟩ (Stay.upd (Stay.refl b H))
    · refine ⟨_, rfl, b, _, 2, _, rfl, rfl, hS, ix2, ?_⟩
      walk_at "rd"
      refine ⟨b, _, 2, 2, rfl, rfl, hb, rfl, ?_⟩
      have hS2 : SqL K (upd H b (.lst [.int d, .int m, .int (c + 1)])) b [.int d, .int m, .int (c + 1)] := SqL.of upd_same
      refine ⟨_, rfl, b, _, 1, _, rfl, rfl, hS2, ix1, ?_⟩
      walk_at "rd"
      refine ⟨b, _, 2, _, rfl, rfl, hS2, ix2, ?_⟩
      walk_at "rd"
      refine ⟨⟨by decide, by decide, by show _ < 18446744073709551616; omega⟩, ?_⟩
      walk_at "rd"
      refine ⟨b, _, 2, _, rfl, rfl, hS2, ix2, ?_⟩
      walk_at "rd"
      have a1 := Int.emod_nonneg ((m + 15485863 * (c + 1)) ^ (3 : Int).toNat) (show (2305843009213693921 : Int) ≠ 0 by decide)
      have a2 := Int.emod_lt_of_pos ((m + 15485863 * (c + 1)) ^ (3 : Int).toNat) (show (0 : Int) < 2305843009213693921 by decide)
      refine ⟨⟨by decide, by decide, ?_⟩, ?_⟩
      · show _ < 18446744073709551616
        omega
      walk_at "rd"
      refine ⟨hm, ?_⟩
      exact k _ _ (Int.emod_nonneg _ (Int.ne_of_gt hm)) (Int.emod_lt_of_pos _ hm) ⟨_, _, _, upd_same, h1, h2, by show 0 ≤ c + 1; omega, by show c + 1 ≤ _; omega⟩ (Stay.upd (Stay.refl b H))
end
end Ow

set_option Elab.async false
set_option linter.all false
set_option maxRecDepth 100000
set_option maxHeartbeats 2000000
/-! an own exception's __init__ that says super().__init__(text) first -/
namespace ErX
open PySem PySem.Spec PyProof.Rows PySem.W PySem.Calls L2
/-- a def whose scope captures __class__ alone -/
structure FnScopeF (N P : List Str) (sc : Scope) : Prop where
  kind : sc.kind = .function
  co : sc.isCoroutine = false
  gen : sc.isGenerator = false
  nd : N.Nodup
  pre : N.take P.length = P
  par : ∀ x ∈ P, sc.names.lookup x = some .local
  nocell : ∀ y ∈ sc.names, y.2 ≠ .cell
  free : ∀ y ∈ sc.names, y.2 = .free → y.1 = "__class__"
  sup : sc.names.lookup ("super" : Str) = some .globalImplicit
  cls : sc.names.lookup ("__class__" : Str) = some .free
def cxF (CX : CXT) (P : Program) (w : World) (K : PySem.W.Frag) (mg : Str → Option Value) (base : Heap) (N : List Str) (qual : Str) (scope : Scope) (f cc : Addr) (cd : Value) (A : Around) (outer : List Env) (s : Shared) (H : Hp) (E : XK) : Cx where
  prog := P
  w := w
  K := K
  mg := mg
  base := base
  A := A.deeper (envX qual scope s.heap.objs.size f cd [("__class__", cc)])
  N := N
  s_0 := s
  H_0 := H
  env := envX qual scope s.heap.objs.size f cd [("__class__", cc)]
  outer := outer
  stack := envX qual scope s.heap.objs.size f cd [("__class__", cc)] :: outer
  ex := []
  calm := true
  fn := fun x => x != "__class__"
  pn := []
  xe := fun e s' => wpAny (model P w) (A.deeper (envX qual scope s.heap.objs.size f cd [("__class__", cc)])) (leaving (envX qual scope s.heap.objs.size f cd [("__class__", cc)]) e) (fun _ s'' => CX outer H s E e s'') (fun e' s'' => CX outer H s E e' s'') s'
theorem one_lookup {x : Str} {c cc : Addr} (h : ([("__class__", cc)] : List (Str × Addr)).lookup x = some c) : x = "__class__" ∧ c = cc := by
  by_cases e : x = "__class__"
  · subst e
    simp at h
    exact ⟨rfl, h.symm⟩
  · have : (x == ("__class__" : Str)) = false := by simpa using e
    simp [List.lookup, this] at h
/-- what stands around the class of the error -/
structure ErC (K : PySem.W.Frag) (P : Program) (C f cc cda : Addr) : Prop where
  oex : OexC K C
  cell : ∃ cl cld csl, K.lookup cc = some ⟨cl, cld, .cell (some (.ref C)), csl⟩
  code : ∃ ccl cdd vs ccs file tf, K.lookup cda = some ⟨ccl, cdd, .fields vs, ccs⟩ ∧ vs[2]? = some (.str file tf) ∧ ((P.main.file : Str) == file) = true
  sup : PySem.W.nsIn K mainGlobals "super" = some none
  third : PySem.W.nsIn K cStatics "thirdparty.any" = some none
  subD : PySem.W.mroIn K C (.ref C) = some true
  subV : PySem.W.subIn K (.ref C) (.type "ValueError") = some true
  ini : PySem.W.ks_superIn K C C "__init__" = some (some (.builtin "ValueError.__init__"))
  top : (P.main.scope.names.lookup ("super" : Str)).isSome = false

theorem look_mem {α β : Type} [BEq α] [LawfulBEq α] {y : α} {u : β} : ∀ {l : List (α × β)}, (l.map (·.1)).Nodup → (y, u) ∈ l → l.lookup y = some u
  | [], _, h => by cases h
  | (a, b) :: l, hn, h => by
    rw [List.map_cons, List.nodup_cons] at hn
    rcases List.mem_cons.mp h with h | h
    · cases h
      simp [List.lookup]
    · have : a ≠ y := fun e => hn.1 (e ▸ List.mem_map.mpr ⟨_, h, rfl⟩)
      have hb : (y == a) = false := by simpa using Ne.symm this
      simp only [List.lookup, hb]
      exact look_mem hn.2 h
theorem lookup_rev {y : Str} {u : Value} {l : List (Str × Value)} (hn : (l.map (·.1)).Nodup) (h : (y, u) ∈ l) : l.reverse.lookup y = some u :=
  look_mem (by rw [List.map_reverse]; exact (List.reverse_perm _).nodup_iff.mpr hn) (List.mem_reverse.mpr h)
theorem zip_fst : ∀ {ps : List Str} {us : List Value}, ((ps.zip us).map (·.1)).Sublist ps
  | [], _ => by simp
  | _ :: _, [] => by simp
  | p :: ps, u :: us => by
    rw [List.zip_cons_cons, List.map_cons]
    exact (zip_fst (ps := ps) (us := us)).cons₂ p
theorem inv_startF {CX : CXT} {P : Program} {w : World} {K : PySem.W.Frag} {mg : Str → Option Value} {base : Heap} {N ps : List Str} {qual : Str} {scope : Scope} {f cc : Addr} {cd : Value} {A : Around} {outer : List Env} {s : Shared} {H : Hp} {E : XK} {us : List Value} {vs : List V} {h₀ : Heap} {tk : Nat} {oc : Obj} {cv : Option Value}
    (S : FnScopeF N ps scope) (hd : A.handled = none) (e0 : Env0 P w K mg base A outer s H) (hl : vs.length = ps.length) (r : Vals vs us) (hcc : K.lookup cc = some oc) (hcv : oc.data = .cell cv)
    (hns : h₀.Ns s.heap.objs.size (fun x => (ps.zip us).reverse.lookup x)) (hk : ∀ b o, s.heap.get? b = some o → h₀.get? b = some o) :
    Inv (cxF CX P w K mg base N qual scope f cc cd A outer s H E) [] (L2.start N vs) H { s with heap := h₀, toks := tk } := by
  have hpl : ps.length ≤ N.length := by have := congrArg List.length S.pre; rw [List.length_take] at this; omega
  have noA : ∀ b : Addr, b ∉ (cxF CX P w K mg base N qual scope f cc cd A outer s H E).ex := fun b z => absurd (show b ∈ ([] : List Addr) from z) (by simp)
  have KX : K.In s.heap := e0.mod.kin.keeps fun b o e => (e0.bs b o e).1
  have hcc0 := e0.mod.kin _ _ hcc
  have hlr := r.length
  refine ⟨⟨e0.mod, S.kind, rfl, rfl, Nat.le_refl _, fun y z c h1 h2 => ?_, fun y hy => ?_, fun y c hf h => ?_, fun _ => hd, Around.frames_deeper e0.frames, .inr ⟨rfl, rfl⟩, fun b z => absurd z (noA b), e0.bs, e0.bsz, fun b _ _ => noA b, fun b z => absurd z (noA b), e0.funs, e0.frf⟩,
    rfl, e0.bare, Un.kept hk, ⟨_, hns, fun i y v h1 h2 h3 => ?_⟩, fun y c h => ?_, e0.hok.fresh (Nat.le_refl _), fun y c h => ?_, fun p hp => absurd (show p ∈ ([] : List (Addr × Obj)) from hp) (by simp), e0.hok.kept hk, ?_⟩
  · exact (one_lookup h1).1.trans (one_lookup h2).1.symm
  · have hy : scope.names.lookup y = some .cell ∨ scope.names.lookup y = some .free := hy
    rcases hy with hy | hy
    · exact absurd rfl (S.nocell _ (PySem.mem_of_lookup hy))
    · have := S.free _ (PySem.mem_of_lookup hy) rfl
      dsimp only at this
      subst this
      exact ⟨cc, by show ([("__class__", cc)] : List (Str × Addr)).lookup ("__class__" : Str) = some cc; simp⟩
  · have := (one_lookup h).1
    subst this
    exact absurd hf (by show ¬ ((("__class__" : Str) != "__class__") = true); simp)
  · have hi : i < vs.length := by
      unfold L2.start at h2
      by_cases hi : i < vs.length
      · exact hi
      · rw [List.getElem?_append_right (by simpa using hi)] at h2
        rw [List.getElem?_replicate] at h2
        split at h2 <;> cases h2
    have ha : vs[i]? = some v := by
      unfold L2.start at h2
      rw [List.getElem?_append_left (by simpa using hi), List.getElem?_map] at h2
      cases e : vs[i]? with
      | none => rw [e] at h2; cases h2
      | some a => rw [e] at h2; cases h2; rfl
    obtain ⟨u, hu, rv⟩ := r.get ha
    have hp : ps[i]? = some y := by
      rw [← S.pre, List.getElem?_take_of_lt (by omega)]; exact h1
    have ndP : ps.Nodup := by rw [← S.pre]; exact S.nd.sublist (List.take_sublist _ _)
    refine ⟨u, rv, .inl ⟨S.par y (List.mem_of_getElem? hp), ?_⟩⟩
    have hz : (ps.zip us)[i]? = some (y, u) := by
      rw [List.getElem?_zip_eq_some]
      exact ⟨hp, hu⟩
    have hnd : ((ps.zip us).map (·.1)).Nodup := ndP.sublist zip_fst
    exact lookup_rev hnd (List.mem_of_getElem? hz)
  · obtain ⟨rfl, rfl⟩ := one_lookup h
    exact ⟨cv, oc, hk _ _ (e0.bs _ _ hcc0).1, hcv⟩
  · obtain ⟨rfl, rfl⟩ := one_lookup h
    exact (e0.bs _ _ hcc0).2
  · unfold L2.start
    show _ = N.length
    rw [List.length_append, List.length_map, List.length_replicate]
    omega
end ErX

set_option Elab.async false
set_option linter.all false
set_option maxRecDepth 100000
set_option maxHeartbeats 2000000
namespace ErX
open PySem PySem.Spec PyProof.Rows PySem.W PySem.Calls L2
theorem kxs_at_call {prog : Program} {w : World} {A : Around} {E : Value → Shared → Prop} {h : Heap} {g : Array GenState} {d : Drawn} {tk : Nat} {os : OsState} {u e C t0 : Addr} {K : Frag} {rest : List Value} {Q : Value → Shared → Prop}
    (T : OexC K C) (X : K.In h) (hu : h.get? u = some (kxs_mw "ValueError.__init__" e)) (he : h.get? e = some ({ cls := .ref C, dict := none, data := .fields #[.ref t0, .none, .none, .none, .bool false, .none] } : Obj)) (hz : rest.length ≤ sizeLine)
    (hq : ∀ h' t1, (∀ b o, b ≠ e → h.get? b = some o → h'.get? b = some o) → h'.get? e = some ({ cls := .ref C, dict := none, data := .fields #[.ref t1, .none, .none, .none, .bool false, .none] } : Obj) → Q .none ⟨h', g, d, tk, os⟩) :
    wpAny (model prog w) A (call (.ref u) rest) Q E ⟨h, g, d, tk, os⟩ := by
  obtain ⟨nm, q, N, bs, bm, sn, sub, ab, col, dd, k0, k1, k2, k3, k5, hC, hbm⟩ := T.cls
  refine wpAny_call (codeAny_of_tree ?_)
  show wpAny _ A.in1 (callAny (.ref u) ⟨rest, []⟩) _ _ _
  simp only [callAny]
  refine wpAny_bind (wpAny_load hu ?_)
  simp only [kxs_mw, show (Value.type "method-wrapper" == Value.type "method" || Value.type "method-wrapper" == Value.type "builtin_function_or_method" || Value.type "method-wrapper" == Value.type "method-wrapper") = true by decide, if_true]
  refine KFB.if_so (by decide) ?_
  refine wpAny_bind (check_bound_init F.excBase_ValueError.toExcCallFacts (X _ _ hC) he rfl ?_)
  refine wpAny_bind (wpAny_pure (wpAny_pure ?_))
  refine ⟨plainId_quiet F.excBase_ValueError.init.plain _, codeAny_builtin F.excBase_ValueError.initEntry ?_⟩
  exact exc_init_tree (cls := .ref C) (t0 := t0) (dv := none) (c2 := .none) (c3 := .none) (b4 := .bool false) he hz fun h' k e' _ => hq h' _ k e'

theorem fn_err {CX : CXT} {P : Program} {w : World} {K : PySem.W.Frag} {mg : Str → Option Value} {base : Heap} {k : Nat} {f cc cda C : Addr} {name qual : Str} {params : Arguments} {body rest : List Stmt} {arg : Expr} {scope : Scope} {dV kV doc pm ct oc : Value} {an od : Option Addr}
    {osl : Array (Option Value)} {N ps : List Str} {sp : Sp} {p0 p1 p2 p3 p4 : Pos} {ar : Arg}
    (lk : K.lookup f = some ⟨oc, od, .func (ksFn name qual params body scope dV kV doc pm an (.ref cda) ct cc), osl⟩)
    (hbd : body = .Expr (.Call (.Attribute (.Call (.Name "super" p0) [] [] p1) "__init__" p2) [arg] [] p3) p4 :: rest)
    (hcd : PySem.W.codeIn K (.ref cda) qual = true) (S : FnScopeF N ps scope) (G : ErC K P C f cc cda)
    (he : ∀ env : Env, ∃ pl : Sem Bool, eval (.Call (.Attribute (.Call (.Name "super" p0) [] [] p1) "__init__" p2) [arg] [] p3) env = (do
      let ov ← attributeBase (.Call (.Name "super" p0) [] [] p1) "__init__" env (eval (.Call (.Name "super" p0) [] [] p1) env)
      standAt p2.atName
      let (f, first) ← holding [ov] (getMethod ov "__init__" pl)
      callWith p3 f first (backTo p3 (starEach [arg] env)) []))
    (hst : ∀ env : Env, starEach [arg] env = [(false, eval arg env)]) (hpl : ∀ env : Env, (backTo p3 (starEach [arg] env)).any (·.1) = false)
    (hself : (params.posonlyargs ++ params.args).head? = some ar) (har : ps[0]? = some ar.arg)
    (len : ∀ vs H Q E, sp vs H Q E → vs.length = ps.length)
    (hbody : ∀ (A : Around) (outer : List Env) (s : Shared) (H : Hp) (vs : List V) (Q : VK) (E : XK), Room k (A.deeper (envX qual scope s.heap.objs.size f (.ref cda) [("__class__", cc)])) → sp vs H Q E →
      ∃ ta t a vs', vs = .ref a :: vs' ∧ H a = some (exo a C none) ∧ PE (cxF CX P w K mg base N qual scope f cc (.ref cda) A outer s H E) arg ta ∧ PSs (cxF CX P w K mg base N qual scope f cc (.ref cda) A outer s H E) rest t ∧
        ta (L2.start N vs) H fun v H1 => H1 a = some (exo a C none) ∧ t { nx := fun _ H' => Q .non H', rt := Q } (L2.start N vs) H1) :
    FnOk P w K mg base CX (k + 1) f (ksFn name qual params body scope dV kV doc pm an (.ref cda) ct cc) ps sp := by
  subst hbd
  refine ⟨len, fun A outer s H args us vs Q E hr e0 hb r hsp => ?_⟩
  have hl := len _ _ _ _ hsp
  have KX : K.In s.heap := e0.mod.kin.keeps fun b o e => (e0.bs b o e).1
  have lim : s.heap.NoLimit := e0.mod.nolimit.keeps fun b o e => (e0.bs b o e).1
  obtain ⟨cl, cld, csl, hcc⟩ := G.cell
  obtain ⟨ccl, cdd, fvs, ccs, file, tf, hcode, hvs, hfile⟩ := G.code
  obtain ⟨nm, qn, Nn, bs, bm, sn, sub, ab, col, dd, k0, k1, k2, k3, k5, hC, hbm⟩ := G.oex.cls
  have hclC : clsIn K C = some { name := nm, bases := bs, mro := .ref C :: bm, ns := Nn, qualname := qn, hasDict := true, slotNames := sn, subclasses := sub, abstract := ab, collection := col, hasDel := false } := by unfold clsIn; rw [hC] <;> rfl
  refine ks_codeAny_call_defAt (fd := ksFn name qual params _ scope dV kV doc pm an (.ref cda) ct cc) hr.depth (KX _ _ lk) rfl lim (codeRec_of KX hcd) rfl hb S.nocell (fun y hy => S.par _ (List.of_mem_zip (show (y.1, y.2) ∈ ps.zip us from hy)).1) (fun h₀ hns hk => ?_) S.co S.gen S.kind
  obtain ⟨ta, t, a, vs', ev, ea, hta, ht, hq⟩ := hbody A outer s H vs Q E (hr.deeper _) hsp
  subst ev
  have I : Inv (cxF CX P w K mg base N qual scope f cc (.ref cda) A outer s H E) [] (L2.start N (.ref a :: vs')) H { s with heap := h₀, toks := s.toks + (ps.zip us).length } := inv_startF S hr.hd e0 hl r hcc rfl hns hk
  generalize hX : cxF CX P w K mg base N qual scope f cc (.ref cda) A outer s H E = X at I hta ht
  have eP : X.prog = P := by rw [← hX]; rfl
  have ew : X.w = w := by rw [← hX]; rfl
  have eA : X.A = A.deeper (envX qual scope s.heap.objs.size f (.ref cda) [("__class__", cc)]) := by rw [← hX]; rfl
  have eV : X.env = envX qual scope s.heap.objs.size f (.ref cda) [("__class__", cc)] := by rw [← hX]; rfl
  have eK : X.K = K := by rw [← hX]; rfl
  have eN : X.N = N := by rw [← hX]; rfl
  refine ks_wpAt_mono (Q := SP X [] { nx := fun _ H' => Q .non H', rt := Q }) (E := X.xe) ?_ (fun fl s' hs => ?_) (fun _ _ x => by rw [← hX] at x; exact x)
  · have X0 : K.In h₀ := by have := I.kIn; rw [eK] at this; exact this
    show _root_.PySem.wpAt (model P w) (A.deeper (envX qual scope s.heap.objs.size f (.ref cda) [("__class__", cc)])) (.func _ (envX qual scope s.heap.objs.size f (.ref cda) [("__class__", cc)])) (execs _ (envX qual scope s.heap.objs.size f (.ref cda) [("__class__", cc)])) _ _ _
    obtain ⟨pl, he⟩ := he (envX qual scope s.heap.objs.size f (.ref cda) [("__class__", cc)])
    have hint : interactive (envX qual scope s.heap.objs.size f (.ref cda) [("__class__", cc)]) = false := by
      unfold interactive
      show (scope.kind == .module && _) = false
      rw [S.kind]
      rfl
    refine ks_wpAt_execs_cons (ks_wpAt_Expr_any (ks_wpAt_MethodCall (pl := pl) ?_ he) hint)
    obtain ⟨t1, ho⟩ := exo_at I.hok ea
    have hxc := X0 _ _ hC
    refine ks_wpAt_super_base (env := envX qual scope s.heap.objs.size f (.ref cda) [("__class__", cc)]) S.sup S.cls (by decide) rfl (X0 _ _ lk) rfl hself rfl (X0 _ _ hcode) rfl hvs hfile G.top ?_
    have hkS : (envX qual scope s.heap.objs.size f (.ref cda) [("__class__", cc)]).scope.kind = .function := S.kind
    obtain ⟨mb, hb1, hb2⟩ := I.mod.blt
    have hbk : ∀ b o, base.get? b = some o → h₀.get? b = some o := by
      have := I.bk
      rw [← hX] at this
      exact this
    have hmg : mg "super" = none := by
      have := I.mod.glob
      rw [← hX] at this
      exact mg_none_of (e0.mod.kin) this G.sup
    have hglob := e0.mod.glob
    obtain ⟨mb, hb1, hb2⟩ := e0.mod.blt
    refine ks_loadName_global hkS S.sup (loadGlobal_builtin (env := envX qual scope s.heap.objs.size f (.ref cda) [("__class__", cc)]) (hglob.keeps hbk) hmg (hb1.keeps hbk) ((hb2 _ (by decide)).trans (by first | boot_by_name | rfl | kernel_rfl)) ⟨rfl, ?_⟩)
    refine wpAny_loadName_free hkS S.cls (by show ([("__class__", cc)] : List (Str × Addr)).lookup ("__class__" : Str) = some cc; simp) ⟨_, X0 _ _ hcc, rfl⟩ ?_
    refine wpAny_loadName_local hkS (S.par _ (List.mem_of_getElem? har)) hns (v := .ref a) ?_ ?_
    · cases r with
      | @cons _ u0 _ ur ra rr =>
        obtain rfl : u0 = Value.ref a := ra
        have hz : (ps.zip (Value.ref a :: ur))[0]? = some (ar.arg, Value.ref a) := by
          rw [List.getElem?_zip_eq_some]
          exact ⟨har, rfl⟩
        have ndP : ps.Nodup := by rw [← S.pre]; exact S.nd.sublist (List.take_sublist _ _)
        exact lookup_rev (ndP.sublist zip_fst) (List.mem_of_getElem? hz)
    refine ks_wpAny_isType_cls hxc rfl ⟨rfl, ?_⟩
    have subD : Looks (model P w) h₀ (isSubtype (.ref C) (.ref C)) true := looks_mroIn X0 G.subD
    refine ks_wpAny_call_super hxc rfl ho rfl (fun c z => by cases z) subD (fun h1 hso k1 => ?_)
    have I1 : Inv X [] (L2.start N (.ref a :: vs')) H ⟨h1, s.gens, s.drawn, s.toks + (ps.zip us).length, s.os⟩ := I.kept (t' := s.toks + (ps.zip us).length) k1
    have X1 : K.In h1 := X0.keeps k1
    have hCm : Looks (model P w) h1 (mroOf (.ref C)) (.ref C :: bm) := fun A Q E s k q => wpAny_bind ((looks_clsIn X1 hclC) A _ E s k (wpAny_pure q))
    have hini : alongIn K "__init__" (((Value.ref C :: bm).dropWhile (· != .ref C)).drop 1) = some (some (.builtin "ValueError.__init__")) := by
      have := G.ini
      unfold ks_superIn at this
      rw [hclC] at this
      exact this
    have IA : InstAt h1 a ({ cls := .ref C, dict := none, data := .fields #[.ref t1, .none, .none, .none, .bool false, .none] } : Obj) C none := ⟨k1 _ _ ho, rfl, rfl, trivial⟩
    refine kxs_getMethod kxs_ValueError hso (looks_opaque X1 G.third) hCm rfl X1 hini (IA.type.andThen (looks_subIn X1 G.subV)) (ks_ne X1 IA hclC) (by decide) ?_
    subst hX
    generalize hu : h1.objs.size = u
    have I2 := I1.kept (t' := s.toks + (ps.zip us).length + 1) (h' := h1.push (kxs_mw "ValueError.__init__" a)) fun b o e => Heap.get?_push_of_some _ e
    have I3 := I2.pins_of (pins' := [(u, kxs_mw "ValueError.__init__" a)]) fun p hp => by
      rw [List.mem_singleton.mp hp]
      refine ⟨Heap.get?_push_at hu.symm rfl, I1.hok.fresh (Nat.le_of_eq hu), ?_, I1.nofs (Nat.le_of_eq hu), fun v z => by cases z⟩
      rw [← hu]
      exact Nat.ne_of_gt I1.lt
    rw [hst] at *
    refine kxs_callWith (i := "ValueError.__init__") (x := a) rfl (evalArgs_plain ?_)
    have hrun := (pa_cons hta pa_nil (hst _)).run p3 [(u, kxs_mw "ValueError.__init__" a)] _ _ H (fun vs H1 => match vs with
      | [_] => H1 a = some (exo a C none) ∧ t { nx := fun _ H' => Q .non H', rt := Q } (L2.start N (.ref a :: vs')) H1
      | _ => False) I3 ?_
    · rw [hst] at hrun
      refine thn hrun fun us1 s1 ⟨vs1, H1, J1, r1, q1⟩ => ?_
      obtain ⟨v1, rfl⟩ : ∃ v, vs1 = [v] := by
        rcases vs1 with _ | ⟨v, _ | ⟨_, _⟩⟩
        · exact q1.elim
        · exact ⟨v, rfl⟩
        · exact q1.elim
      obtain ⟨ea1, hq1⟩ := q1
      have hpin := (J1.pin (u, kxs_mw "ValueError.__init__" a) (List.mem_append_right _ List.mem_cons_self)).1
      obtain ⟨t2, ho2⟩ := exo_at J1.hok ea1
      have XX : K.In s1.heap := J1.kIn
      have hln : us1.length ≤ sizeLine := by
        rw [← r1.length]
        exact (by decide : 1 ≤ sizeLine)
      refine ⟨hpin, ?_⟩
      obtain ⟨hp, g1, d1, tk1, os1⟩ := s1
      refine kxs_at_call G.oex XX hpin ho2 hln fun h' t3 k' e' => ?_
      have J := (J1.write (t' := tk1) (x := a) (e := a) (o := exo a C none) (by rw [ea1]; exact True.intro) (.inl rfl) k' ⟨_, e'⟩ (exo_ok e')).pins_of (pins' := []) fun p hp => by cases hp
      have eu : upd H1 a (exo a C none) = H1 := by
        funext b
        by_cases hb : b = a
        · rw [hb, upd_same, ea1]
        · rw [upd_ne hb]
      rw [eu] at J
      exact wpAt_of_wpAny (ht.run [] _ _ H1 _ J hq1)
    · exact hq
  · have fin : ∀ {σ' : L2.St} {H' : Hp} {v : V} {u : Value}, Inv X [] σ' H' s' → RelV v u → Q v H' → CE outer P w H s Q u s' := by
      subst hX
      exact fun {σ' H' v u} J rv q => ⟨v, H', J.os, J.bare, J.base, J.hok, rv, q⟩
    cases fl with
    | ret u =>
      obtain ⟨v, σ', H', J, rv, q⟩ := hs
      exact fin J rv q
    | next =>
      obtain ⟨σ', H', J, q⟩ := hs
      exact fin (v := V.non) (u := Value.none) J rfl q
    | brk =>
      obtain ⟨_, _, _, q⟩ := hs
      exact False.elim q
    | cont =>
      obtain ⟨_, _, _, q⟩ := hs
      exact False.elim q
end ErX

set_option Elab.async false
set_option linter.all false
set_option maxRecDepth 100000
set_option maxHeartbeats 2000000
/-! try with several clauses, each with or without a name, and an else -/
namespace ErX
open PySem PySem.Spec PyProof.Rows L2
/-- a clause: the slot of its name (if it has one), the class, the suite's reading -/
abbrev Clz := Option Nat × Value × (Addr → Value → Option Addr → TS)
/-- behind a suite its name is gone -/
def lessO : Option Nat → Ends → Ends
  | none, D => D
  | some i, D => ⟨fun τ G => D.nx (τ.set i none) G, D.rt, fun τ G => D.bk (τ.set i none) G, fun τ G => D.ct (τ.set i none) G⟩
def moreO : Option Nat → Addr → L2.St → L2.St
  | none, _, τ => τ
  | some i, a, τ => τ.set i (some (.ref a))
/-- what the clauses wish of an exception, one behind another -/
def wClz (K : PySem.W.Frag) (Wo : WX) (D : Ends) : List Clz → WX
  | [] => Wo
  | z :: r => fun cls d τ G => ∃ b, PySem.W.exmOne K cls z.2.1 = some b ∧ (b = true → ∀ a, G a = none → z.2.2 a cls d (lessO z.1 D) (moreO z.1 a τ) G) ∧ (b = false → wClz K Wo D r cls d τ G)
/-- the clauses as they are written -/
inductive Clauses (X : Cx) : List ExceptHandler → List Clz → Prop
  | nil : Clauses X [] []
  | bare {x : Str} {c : Value} {ts : Addr → Value → Option Addr → TS} {b₀ : Stmt} {more : List Stmt} {p q : Pos} {hs : List ExceptHandler} {l : List Clz} (nm : Names X x c)
      (su : ∀ a oe cls d pn, Zc cls d oe → (∃ vs, oe.data = .fields vs) → PSs (X.suite a ((a, oe) :: pn)) (b₀ :: more) (ts a cls d)) (r : Clauses X hs l) :
      Clauses X (.ExceptHandler (some (.Name x p)) none (b₀ :: more) q :: hs) ((none, c, ts) :: l)
  | named {x n : Str} {i : Nat} {c : Value} {ts : Addr → Value → Option Addr → TS} {b₀ : Stmt} {more : List Stmt} {p q : Pos} {hs : List ExceptHandler} {l : List Clz} (nm : Names X x c) (hi : X.N[i]? = some n) (hn : X.env.kindOf n = some .local)
      (su : ∀ a oe cls d pn, Zc cls d oe → (∃ vs, oe.data = .fields vs) → PSs (X.suite a ((a, oe) :: pn)) (b₀ :: more) (ts a cls d)) (r : Clauses X hs l) :
      Clauses X (.ExceptHandler (some (.Name x p)) (some n) (b₀ :: more) q :: hs) ((some i, c, ts) :: l)
section
variable {X : Cx} {body rest : List Stmt} {h₀ : ExceptHandler} {hs : List ExceptHandler} {l : List Clz} {pos : Pos} {tb : WX → TS} {u : TS} {Wo : WX}
theorem ps_clauses (ho : PSs X rest u) (stk : X.stack = X.env :: X.outer) (fr : X.env.frame = some X.env.locals) (hN : X.N.Nodup) (tk : Takes X Wo)
    (hb : ∀ (W : WX) (pn : List (Addr × Obj)) (xe : Value → Shared → Prop), Takes (X.tr pn xe) W → PassesOwn (model X.prog X.w) X.A X.env xe → PSs (X.tr pn xe) body (tb W))
    (hh : Clauses X (h₀ :: hs) l) : PS X (.Try body (h₀ :: hs) rest [] pos) (fun D τ G => tb (wClz X.K Wo D l) { D with nx := u D } τ G) := by
  constructor
  intro pins s τ G D I wish
  have frames : X.A.frames = some (X.env :: X.outer) := stk ▸ I.ok.frames
  have taken : ∀ v s', XE (X.tr (X.pn ++ pins) fun e t => wpAny (model X.prog X.w) X.A (noteFrame e X.env) (fun _ t2 => wpAny (model X.prog X.w) X.A (setFlight e none) (fun _ t3 => wpAny (model X.prog X.w) X.A (handleBy e X.env (h₀ :: hs)) (SP X pins D) X.xe t3) X.xe t2) X.xe t) (wClz X.K Wo D l) v s' →
      wpAny (model X.prog X.w) X.A (noteFrame v X.env) (fun _ t2 => wpAny (model X.prog X.w) X.A (setFlight v none) (fun _ t3 => wpAny (model X.prog X.w) X.A (handleBy v X.env (h₀ :: hs)) (SP X pins D) X.xe t3) X.xe t2) X.xe s' := by
    rintro _ s' ⟨a, B, sI, _, τ', G', cls, d, rfl, J0, nb, up, sky, na, os, ag, w⟩
    have J : Inv X pins τ' G' sI := J0.ofTry I.ok
    have sky : Sky B (X.env :: X.outer) a (Zc cls d) X.env.locals s'.heap := stk ▸ sky
    refine Sky.land Zc.steady frames fr sky fun h3 fl up3 => ?_
    have J3 : Inv X pins τ' G' { s' with heap := h3 } := J.landed nb fl.1 (up.trans up3) os ag
    obtain ⟨o3, v3, g3, z3, d3⟩ := fl.there
    have apart : a ∉ frs (X.env :: X.outer) := fun hm => by
      obtain ⟨_, o, e, no⟩ := fl.2.2.1.mem hm
      rw [g3] at e
      cases e
      exact no _ d3
    have aL : a ≠ X.env.locals := fun e => apart (List.mem_filterMap.mpr ⟨X.env, List.mem_cons_self, by rw [fr, e]⟩)
    have aF : a ∉ X.fs := fun hm => by
      obtain ⟨e, he, q⟩ := List.mem_filterMap.mp hm
      exact apart (List.mem_filterMap.mpr ⟨e, List.mem_cons_of_mem _ he, q⟩)
    have T3 := J3.suite g3 d3 na aL aF
    have kind : PySem.W.Looks (model X.prog X.w) h3 (typeOf (.ref a)) cls := fun A Q E t k q => wpAny_typeOf_ref (k _ _ g3) (by rw [z3.1]; exact q)
    have look : ∀ {x : Str} {c : Value} {p : Pos} {Q : Value → Shared → Prop} {E : Value → Shared → Prop}, Names X x c → Q c { s' with heap := h3 } → wpAny (model X.prog X.w) (X.A.mark (some (.ref a))) (eval (.Name x p) X.env) Q E { s' with heap := h3 } := by
      rintro x c p Q E ⟨gl, db, m | ⟨m, bt, nn⟩⟩ q
      · exact ld_glob (X := X.suite a ((a, o3) :: (X.pn ++ pins))) T3 gl m q db
      · exact ld_blt (X := X.suite a ((a, o3) :: (X.pn ++ pins))) T3 gl m bt q nn db
    have onwards : Wo cls d τ' G' → wpAny (model X.prog X.w) X.A (handleBy (.ref a) X.env []) (SP X pins D) X.xe { s' with heap := h3 } := fun w => by
      refine wpAny_handleBy_nil ?_
      obtain ⟨_, _, _, oe, vs, T, _, _, he, _, hd, h1, _⟩ := id fl
      unfold PySem.passOn
      refine wpAny_bind (wpAny_field he hd h1 ?_)
      rw [if_neg (show ¬ ((Value.ref T == Value.none) = true) from by simp)]
      have away : wpAny (model X.prog X.w) X.A (setFlight (.ref a) X.env.frame) (fun _ t4 => wpAny (model X.prog X.w) X.A (throw (.ref a) : Sem Flow) (SP X pins D) X.xe t4) X.xe { s' with heap := h3 } := by
        rw [fr]
        exact HandSPX.setFlight_upZ fl fun h4 held up4 => wpAny_throw (tk _ _ ⟨a, B, sI, pins, τ', G', cls, d, rfl, J, nb, (up.trans up3).trans up4, .inr (.inr (stk ▸ held)), na, os, ag, w⟩)
      first
        | exact wpAny_bind (wpAny_pure (wpAny_bind away))
        | exact wpAny_bind away
    have all : ∀ {ks : List ExceptHandler} {ls : List Clz}, Clauses X ks ls → wClz X.K Wo D ls cls d τ' G' → wpAny (model X.prog X.w) X.A (handleBy (.ref a) X.env ks) (SP X pins D) X.xe { s' with heap := h3 } := by
      intro ks ls hk
      induction hk with
      | nil => exact onwards
      | bare nm su r ih =>
        rintro ⟨b, hb1, yes, no⟩
        refine wpAny_handleBy_cons (codeAny_handlers_test (look nm ((PySem.W.exm_one (M := model X.prog X.w) J3.kIn kind hb1).here ?_))) (by intro q; cases q)
        cases b with
        | false => exact ih (no rfl)
        | true =>
          refine codeAny_handlers_suite (HandSPX.lands_againZ fl fun h4 fl4 up4 => ?_)
          have J4 : Inv X pins τ' G' { s' with heap := h4 } := J.landed nb fl4.1 ((up.trans up3).trans up4) os ag
          obtain ⟨o4, v4, g4, z4, d4⟩ := fl4.there
          refine wpAny_mono ((su a o4 cls d (X.pn ++ pins) z4 ⟨_, d4⟩).run [] _ _ G' _ (J4.suite g4 d4 na aL aF) (yes rfl a na)) (fun f t6 e6 => ?_) fun _ _ z => z.elim
          cases f with
          | ret y => obtain ⟨v6, σ6, H6, S6, r6, q6⟩ := e6; exact ⟨_, _, _, S6.unsuite I.ok, r6, q6⟩
          | next => obtain ⟨σ6, H6, S6, q6⟩ := e6; exact ⟨_, _, S6.unsuite I.ok, q6⟩
          | brk => obtain ⟨σ6, H6, S6, q6⟩ := e6; exact ⟨_, _, S6.unsuite I.ok, q6⟩
          | cont => obtain ⟨σ6, H6, S6, q6⟩ := e6; exact ⟨_, _, S6.unsuite I.ok, q6⟩
      | @named x n i c ts b₀ more p q ks2 ls2 nm hi hn su r ih =>
        rintro ⟨b, hb1, yes, no⟩
        refine wpAny_handleBy_cons (codeAny_handlers_test (look nm ((PySem.W.exm_one (M := model X.prog X.w) J3.kIn kind hb1).here ?_))) (by intro q; cases q)
        cases b with
        | false => exact ih (no rfl)
        | true =>
          refine codeAny_handlers_suite_as (HandSPX.lands_againZ fl fun h4 fl4 up4 => ?_)
          have J4 : Inv X pins τ' G' { s' with heap := h4 } := J.landed nb fl4.1 ((up.trans up3).trans up4) os ag
          obtain ⟨o4, v4, g4, z4, d4⟩ := fl4.there
          refine store_ok (X := X.suite a ((a, o4) :: (X.pn ++ pins))) (v := .ref a) (J4.suite g4 d4 na aL aF) hN hi (.inl hn) rfl (fun s5 S5 => ?_) (.inr hn)
          refine wpAny_mono ((su a o4 cls d (X.pn ++ pins) z4 ⟨_, d4⟩).run [] s5 _ G' _ S5 (yes rfl a na)) (fun f t6 e6 => ?_) fun _ _ z => z.elim
          have go : ∀ {σ6 : L2.St} {H6 : Hp} {Q : Shared → Prop}, Inv (X.suite a ((a, o4) :: (X.pn ++ pins))) [] σ6 H6 t6 → (∀ t7, Inv X pins (σ6.set i none) H6 t7 → Q t7) → wpAny (model X.prog X.w) X.A (do bindName X.env n .none; unbindBehindTheSuite X.env n q) (fun _ t7 => Q t7) X.xe t6 :=
            fun {σ6 H6 Q} S6 hq => gone_ok (S6.unsuite I.ok) hN hi hn hq
          cases f with
          | ret y => obtain ⟨v6, σ6, H6, S6, r6, q6⟩ := e6; exact go S6 fun t7 J7 => ⟨_, _, _, J7, r6, q6⟩
          | next => obtain ⟨σ6, H6, S6, q6⟩ := e6; exact go S6 fun t7 J7 => ⟨_, _, J7, q6⟩
          | brk => obtain ⟨σ6, H6, S6, q6⟩ := e6; exact go S6 fun t7 J7 => ⟨_, _, J7, q6⟩
          | cont => obtain ⟨σ6, H6, S6, q6⟩ := e6; exact go S6 fun t7 J7 => ⟨_, _, J7, q6⟩
    exact all hh w
  refine wpAny_Try_except (wpAny_mono ((hb (wClz X.K Wo D l) (X.pn ++ pins) _ taken PassesOwn.looking).run [] s τ G { D with nx := u D } (I.toTry _) wish) (fun f s1 e1 => ?_) fun _ _ z => z)
  cases f with
  | next => obtain ⟨σ1, H1, J1, q1⟩ := e1; exact ho.run pins s1 σ1 H1 D (J1.ofTry I.ok) q1
  | ret y => obtain ⟨v, σ1, H1, J1, r, q1⟩ := e1; exact ⟨v, σ1, H1, J1.ofTry I.ok, r, q1⟩
  | brk => obtain ⟨σ1, H1, J1, q1⟩ := e1; exact ⟨σ1, H1, J1.ofTry I.ok, q1⟩
  | cont => obtain ⟨σ1, H1, J1, q1⟩ := e1; exact ⟨σ1, H1, J1.ofTry I.ok, q1⟩
end
end ErX

set_option Elab.async false
set_option linter.all false
set_option maxRecDepth 100000
set_option maxHeartbeats 2000000
/-! own errors of one field: made, raised, caught, asked -/
namespace ErX
open PySem PySem.Spec PyProof.Rows L2
/-- a text of moderate length -/
structure Sm (x : Str) : Prop where
  len : x.cps.toList.length ≤ 1000
  cps : ∀ c ∈ x.cps.toList, c < 1114112
theorem Sm.ok {x : Str} (h : Sm x) : PyData.strOk x = true := by
  unfold PyData.strOk
  rw [← Array.all_toList, List.all_eq_true]
  exact fun c hc => decide_eq_true (h.cps c hc)
theorem Sm.size {x : Str} (h : Sm x) : x.length ≤ sizeLine := by
  have := h.len
  rw [Array.length_toList] at this
  exact Nat.le_trans (show x.length ≤ 1000 from this) (by decide)
theorem Sm.repr {x : Str} (h : Sm x) : (reprText x).length ≤ 10002 := by
  have h1 := h.len
  rw [Array.length_toList] at h1
  have h1 : x.length ≤ 1000 := h1
  have h2 := PySem.StrLaws.reprText_len x fun c hc => Nat.lt_of_lt_of_le (h.cps c hc) (by decide)
  omega
theorem app_len (a b : Str) : (a ++ b).length = a.length + b.length := by
  show (Str.append a b).cps.size = _
  simp [Str.append, Str.length]
theorem sz_ok {n : Nat} (h : n ≤ 100000) : n ≤ sizeLine := Nat.le_trans h (by decide)
theorem Sm.sz {x : Str} (h : Sm x) : x.length ≤ 1000 := by
  have := h.len
  rw [Array.length_toList] at this
  exact this
theorem int_len {i : Int} (h : -1 ≤ i ∧ i < 10 ^ 60) : ((toString i : String) : Str).length ≤ 60 := by
  by_cases z : 0 ≤ i
  · exact PyProof.Rows.toString_length_le z (by decide) h.2
  · have : i = -1 := by omega
    subst this
    decide +kernel
theorem int_log {i : Int} (h : -1 ≤ i ∧ i < 10 ^ 60) : i.natAbs.log2 < 1920 := by
  have h1 : i.natAbs < 2 ^ 200 := by
    have : (10 : Nat) ^ 60 < 2 ^ 200 := by decide
    omega
  by_cases z : i.natAbs = 0
  · rw [z]; decide
  · have := (Nat.log2_lt z).mpr h1
    omega
/-- what an error's field may be here -/
def OkV (v : V) : Prop := (∃ y, v = .str y ∧ Sm y) ∨ ∃ i : Int, v = .int i ∧ -1 ≤ i ∧ i < 10 ^ 60
/-- __init__ of an error of one field -/
def spEr (C : Addr) (f : Str) : Sp := fun vs H Q _ => ∃ (a : Addr) (v : V), vs = [.ref a, v] ∧ OkV v ∧ H a = some (exo a C none) ∧
  ∀ d H', H d = none → d ≠ a → H' a = some (exo a C (some d)) → H' d = some (exd d [(f, v)]) → (∀ b o, b ≠ a → H b = some o → H' b = some o) → Q .non H'
/-- at the place of a raise -/
theorem er_go {C a : Addr} {f : Str} {v : V} {H : Hp} {Q : XK} {E : XK} (ok : OkV v) (ha : H a = none) (k : ∀ d H', H d = none → H' d = some (.xd [(f, v)]) → Same H H' → Q (.ref C) (some d) H') :
    spEr C f [.ref a, v] (upd H a (exo a C none)) (fun u H2 => u = .non ∧ ∃ (d : Addr) (fs : List (Str × V)), H2 a = some (exo a C (some d)) ∧ H2 d = some (exd d fs) ∧ H d = none ∧ Q (.ref C) (some d) (upd (del H2 a) d (.xd fs))) E := by
  refine ⟨a, v, rfl, ok, upd_same, fun d H' hd da h1 h2 h3 => ⟨rfl, d, _, h1, h2, ?_, ?_⟩⟩
  · rw [upd_ne da] at hd
    exact hd
  · rw [upd_ne da] at hd
    refine k d _ hd upd_same fun b o e => ?_
    have bd : b ≠ d := fun z => by rw [z, hd] at e; cases e
    have ba : b ≠ a := fun z => by rw [z, ha] at e; cases e
    rw [upd_ne bd, del_ne ba]
    exact h3 b o ba ((upd_ne ba).trans e)
/-- all that a raise of the class asks -/
structure ErMk (P : Program) (w : World) (K : PySem.W.Frag) (mg : Str → Option Value) (base : Heap) (k : Nat) (nm : Str) (C : Addr) (f : Str) : Prop where
  oex : OexC K C
  gm : mg nm = some (.ref C)
  ex : ∃ (fI : Addr) (fd : FuncData) (ps : List Str), PySem.W.findIn K (.ref C) "__init__" = some (some (.ref fI)) ∧ PySem.W.typeIn K (.ref fI) = some (.type "function") ∧ FnOk P w K mg base (L2.CX P w) k fI fd ps (spEr C f) ∧ Binds K fd ps []
  xf : XfC K C
  no : PySem.W.findIn K (.ref C) f = some none
section
variable {X : Cx} {k : Nat} {nm f : Str} {C : Addr} {e : Expr} {es : List Expr} {ta : TA} {te : TE} {p pos : Pos}
theorem pmk_er (M : ErMk X.prog X.w X.K X.mg X.base k nm C f) (hr : Room (k + 1) X.A) (ha : PA X (e :: es) ta) (hg : Gl X nm := by rfl) (hdb : (nm == ("__debug__" : Str)) = false := by decide)
    (hs : starEach (e :: es) X.env = (false, eval e X.env) :: starEach es X.env := by rfl) (hpl : (backTo pos (starEach es X.env)).any (·.1) = false := by rfl) :
    PMk X (.Call (.Name nm p) (e :: es) [] pos) (tMkO C (spEr C f) [] ta) := by
  obtain ⟨fI, fd, ps, h1, h2, F, hb⟩ := M.ex
  exact pmk_oex M.oex h1 h2 F hr hb .nil passL hg M.gm ha hdb hs hpl
end
/-! ### isinstance of a caught error that has its dict -/
section
open PySem.W PySem.Calls
variable {prog : Program} {w : World} {A : Around} {E : Value → Shared → Prop} {s : Shared} {K : Frag} {x D : Addr} {ox : Obj} {od : Option Obj}
theorem find_class {C : Addr} {name : Str} {a g : Value} (hc : (clsIn K C).isSome = true) (ha : findIn K (.ref C) name = some (some a)) (hg : specialIn K a "__get__" = some (some g)) (ht : takesIn K a = some true) : findObj K C od name = some (.bind g a) := by
  obtain ⟨cd, hc⟩ := Option.isSome_iff_exists.mp hc
  simp only [findObj, hc, ha, hg, ht, Option.bind_some]
theorem class_of (Y : L2.ExcC K D) (X : K.In s.heap) (I : InstAt s.heap x ox D od) {Q : Option Value → Shared → Prop} (h : Q (some (.ref D)) { s with toks := s.toks + 1 }) : wpAny (model prog w) A (getAttr? (.ref x) "__class__") Q E s := by
  have hf : findObj K D od "__class__" = some (.bind (.builtin "getset_descriptor.__get__") (.builtin "object.__class__")) := find_class (by obtain ⟨cd, hc, _⟩ := any_some Y.hd; rw [hc]; rfl) Y.ha Y.hn Y.ht
  obtain ⟨hp, g, d, t, os⟩ := s
  have ty := I.type (M := model prog w)
  have sub : Looks (model prog w) hp (isInstance (.ref x) (.type "BaseException")) true := ty.andThen (looks_subIn X Y.hs)
  have n2 : (Value.builtin "BaseException.__getattribute__" == Value.builtin "object.__getattribute__") = false := by decide +kernel
  have n1 : (onTheHeap (Value.ref D) && Value.builtin "BaseException.__getattribute__" == Value.builtin "object.__getattribute__") = false := by rw [n2]; rfl
  unfold getAttr? getAttrBy? getAttrBy
  refine wpAny_bind (wpAny_mkText (wpAny_bind (wpAny_attempt (wpAny_holding (wpAny_bind (ty.at (wpAny_bind ((looks_findIn (M := model prog w) X Y.hg).at ?_))))))))
  show wpAny _ _ (if (onTheHeap (Value.ref D) && Value.builtin "BaseException.__getattribute__" == Value.builtin "object.__getattribute__") = true then _ else _) _ _ _
  rw [n1, if_neg Bool.false_ne_true]
  unfold getAttrByItsOwn hookBefore
  refine wpAny_bind ?_
  rw [if_pos (show onTheHeap (Value.ref D) = true from rfl)]
  refine (looks_findIn (M := model prog w) X Y.hk).at (wpAny_bind (wpAny_attempt (wpAny_holding ?_)))
  unfold callGetattribute
  rw [show (false && onTheHeap (Value.builtin "BaseException.__getattribute__")) = false from rfl, if_neg Bool.false_ne_true]
  unfold boundAndCalled
  rw [PySem.F.excAttr_ValueError.ga.bind (.ref x)]
  refine wpAny_bind (wpAny_pure ?_)
  show wpAny _ _ (call (.builtin "BaseException.__getattribute__") [.ref x, .str "__class__" t]) _ _ _
  refine wpAny_call (codeAny_call_builtin PySem.F.excAttr_ValueError.ga.plain PySem.F.entry_bexc_ga (@check_slot (model prog w) _ _ ⟨hp, g, d, t + 1, os⟩ "BaseException.__getattribute__" "BaseException" "__getattribute__" (.ref x) [.str "__class__" t] [] _ (by decide +kernel) (by decide +kernel) sub (PySem.F.args_bexc_ga (.ref x) (.str "__class__" t)) ?_))
  unfold Builtin.«object.__getattribute__»
  refine wpAny_bind (wpAny_of_eq (a := ((Value.ref x : Value), [Value.str "__class__" t])) (by first | rfl | (simp only [slotArgs]; rfl)) ?_)
  refine wpAny_bind (wpAny_pure (wpAny_bind (ty.at (wpAny_bind ((looks_find (M := model prog w) X I hf).at ?_)))))
  show wpAny _ _ (holding [Value.builtin "object.__class__"] (call (.builtin "getset_descriptor.__get__") [.builtin "object.__class__", .ref x, .ref D]) >>= ret) _ _ _
  refine wpAny_bind (wpAny_holding (wpAny_call (class_get (s := ⟨hp, g, d, t + 1, os⟩) (ox := ox) (od := od) X I Y.hm ?_)))
  refine wpAny_pure ?_
  show wpAny _ _ (handedOut (.ref D)) _ _ _
  rw [handedOut_of (v := .ref D) rfl]
  first
    | exact wpAny_pure (wpAny_pure h)
    | exact wpAny_pure h
    | exact wpAny_pure (wpAny_bind (wpAny_pure (wpAny_pure h)))
theorem kit_err (Y : L2.ExcC K D) : KitX K (.ref x) (.ref D) (fun h => InstAt h x ox D od) where
  ty := fun _ _ _ I => I.type
  it := fun _ _ X _ => by
    obtain ⟨cd, hc, _⟩ := any_some Y.hd
    unfold clsIn at hc
    split at hc
    · rename_i ho
      intro A' Q' E' s' k q
      unfold isType loadHead
      exact wpAny_bind (wpAny_loadPart (k _ _ (X _ _ ho)) (wpAny_pure q))
    · cases hc
  ne := fun h tp dd its n sl X htp => by
    obtain ⟨cd, hc, _⟩ := any_some Y.hd
    refine Bool.eq_false_iff.mpr fun q => ?_
    have e : D = tp := Value.ref.inj (beq_iff_eq.mp q)
    subst e
    unfold clsIn at hc
    split at hc
    · rename_i ho
      have z := (X _ _ ho).symm.trans htp
      cases z
    · cases hc
  ca := fun X I k => class_of Y X I k
end
/-- isinstance(e, c): e the error that the suite holds -/
theorem call_isX {X : Cx} {a D : Addr} {oe : Obj} {cls : Value} {d : Option Addr} {pn : List (Addr × Obj)} (C : L2.ExcC X.K D) (hz : Zc cls d oe) (hf : ∃ vs, oe.data = .fields vs) :
    CallR (X.suite a ((a, oe) :: pn)) (.builtin "isinstance") (fun xs H Q => ∃ (c : V) (cv : Value) (b : Bool) (dd : Addr) (fs : List (Str × V)), xs = [.ref a, c] ∧ cls = .ref D ∧ d = some dd ∧ H dd = some (.xd fs) ∧ (∀ u, RelV c u → u = cv) ∧ PySem.W.kitOne X.K (.ref D) cv = some b ∧ Q (.bl b) H) := by
  intro pins s σ H xs us Q I r h
  obtain ⟨c, cv, b, dd, fs, rfl, rfl, rfl, ed, hcv, e, q⟩ := h
  cases r with
  | cons rx rr =>
    cases rr with
    | cons rt rr =>
      cases rr
      cases rx
      have ec := hcv _ rt
      subst ec
      obtain ⟨hget, _⟩ := I.pin (a, oe) (List.mem_append.mpr (.inl List.mem_cons_self))
      obtain ⟨vs, hv⟩ := hf
      have hx : ObjOk X.prog X.w H s.heap dd (.xd fs) := I.hok dd _ ed
      obtain ⟨mA, hns, hr⟩ := hx
      obtain ⟨od, ho, hl⟩ := lookIn_ns hns
      have J : PySem.W.InstAt s.heap a oe D (some od) := ⟨hget, hz.1, by unfold PySem.W.notCls; rw [hv] <;> rfl, by rw [hz.2]; exact ho⟩
      exact PySem.W.kia_one (kit_err C) I.kIn J e (fun z => nomatch z) fun tk => ⟨.bl b, H, I.kept (t' := tk) fun _ _ z => z, rfl, q⟩
end ErX

set_option Elab.async false
set_option linter.all false
set_option maxRecDepth 100000
set_option maxHeartbeats 2000000
/-! calls that may raise, wished for at the caller's slots: a def, a method, a classmethod, a class that is made -/
namespace ErX
open PySem PySem.Spec PyProof.Rows L2
abbrev FnX (P : Program) (w : World) (K : PySem.W.Frag) (mg : Str → Option Value) (base : Heap) (k : Nat) (f : Addr) (sp : Sp) : Prop := FnR P w K mg base (L2.CX P w) k f sp
structure CalX (P : Program) (w : World) (K : PySem.W.Frag) (mg : Str → Option Value) (base : Heap) (x : Str) (k : Nat) (sp : Sp) : Prop where
  ex : ∃ f, mg x = some (.ref f) ∧ FnX P w K mg base k f sp ∧ PySem.W.keepIn K (.ref f) = true
structure MetX (P : Program) (w : World) (K : PySem.W.Frag) (mg : Str → Option Value) (base : Heap) (C : Addr) (m : Str) (k : Nat) (sp : Sp) : Prop where
  cl : Cls K C
  ex : ∃ f, Meth K C m f ∧ FnX P w K mg base k f sp
structure ClmX (P : Program) (w : World) (K : PySem.W.Frag) (mg : Str → Option Value) (base : Heap) (C : Addr) (m : Str) (k : Nat) (sp : Sp) : Prop where
  ex : ∃ mc p g, ClX.CRead K C mc ∧ ClX.CMet K C mc m p g ∧ FnX P w K mg base k g sp
structure MakX (P : Program) (w : World) (K : PySem.W.Frag) (mg : Str → Option Value) (base : Heap) (x : Str) (C : Addr) (k : Nat) (sp : Sp) : Prop where
  gm : mg x = some (.ref C)
  ex : ∃ f, Mk K C f ∧ FnX P w K mg base k f sp
/-- a wish that fits every state's slots -/
abbrev At (X : Cx) (E : L2.St → XK) : Prop := ∀ σ, PassesAt (L2.CX X.prog X.w) X σ (E σ)
/-- in a def that may raise -/
theorem at_def {X : Cx} {E : XK} (tk : Takes X (fun cls d _ H => E cls d H)) : At X (fun _ => E) := fun σ pins H s e s' I c => passes_call tk (fun _ _ _ _ h => h) pins σ H s e s' I c
/-- in a try -/
theorem at_try {X : Cx} {W : WX} (tk : Takes X W) : At X (WE W) := fun σ => passAt tk σ
/-- where nothing is raised -/
theorem at_no {X : Cx} : At X (fun _ => E0) := fun σ pins H s e s' I c => passL pins σ H s e s' I c
section
variable {X : Cx} {pins : List (Addr × Obj)} {σ : L2.St} {H : Hp} {s : Shared} {k : Nat} {f C : Addr} {sp : Sp} {E : L2.St → XK} {Q : VK} {us : List Value} {vs : List V}
theorem run_x (F : FnX X.prog X.w X.K X.mg X.base k f sp) (hr : Room k X.A) (hx : At X E) (I : Inv X pins σ H s) (r : Vals vs us) (h : sp vs H Q (E σ)) : codeAny (model X.prog X.w) X.A (.call (.ref f) ⟨us, []⟩) (wants (EP X pins σ Q) X.xe) s := by
  refine codeAny_mono (F X.A X.stack s H us vs Q (E σ) hr I.env0 r h) fun z s' hz => ?_
  rcases z with e | (_ | _ | _ | _)
  · exact hx σ pins H s e s' I hz
  · exact hz.elim
  · exact hz.elim
  · exact hz.elim
  · exact I.after hz
end
section
variable {X : Cx} {k : Nat} {C : Addr} {sp : Sp} {E : L2.St → XK} {x m : Str} {e o : Expr} {es : List Expr} {ta : TE} {t : TA} {p pos apos : Pos}
def tCalX (sp : Sp) (E : L2.St → XK) (t : TA) : TE := fun σ H Q => t σ H fun vs G => sp vs G Q (E σ)
theorem pe_calX (c : CalX X.prog X.w X.K X.mg X.base x k sp) (hr : Room k X.A) (hx : At X E) (ha : PA X (e :: es) t) (hg : Gl X x := by rfl) (hdb : (x == ("__debug__" : Str)) = false := by decide)
    (hs : starEach (e :: es) X.env = (false, eval e X.env) :: starEach es X.env := by rfl) (hpl : (backTo pos (starEach es X.env)).any (·.1) = false := by rfl) : PE X (.Call (.Name x p) (e :: es) [] pos) (tCalX sp E t) := by
  obtain ⟨f, hm, F, hk⟩ := c.ex
  exact ⟨fun pins s σ H Q I h => wpAny_Call_Name_kw (ld_glob I hg hm (PySem.W.callWith_K (h₀ := X.base) I.ok.mod.kin hk (thn (ha.run pos pins s σ H _ I h) fun us s1 ⟨vs, G, J, r, q⟩ => ⟨J.kIn, wpAny_call (run_x F hr hx J r q)⟩) hs hpl) hdb)⟩
def tMetX (C : Addr) (m : Str) (sp : Sp) (E : L2.St → XK) (ta : TE) (t : TA) : TE := fun σ H Q => ta σ H fun x G => ∃ a dx fs, x = .ref a ∧ G a = some (.ins C dx fs) ∧ fs.lookup m = none ∧ t σ G fun vs G2 => sp (x :: vs) G2 Q (E σ)
theorem pe_metX {pl : Sem Bool} (c : MetX X.prog X.w X.K X.mg X.base C m k sp) (hr : Room k X.A) (hx : At X E) (ho : PE X o ta) (ha : PA X (e :: es) t)
    (hs : starEach (e :: es) X.env = (false, eval e X.env) :: starEach es X.env := by rfl) (hpl : (backTo pos (starEach es X.env)).any (·.1) = false := by rfl)
    (ht : eval (.Call (.Attribute o m apos) (e :: es) [] pos) X.env = (do
      let ov ← eval o X.env
      standAt apos.atName
      let (f, first) ← holding [ov] (getMethod ov m pl)
      callWith pos f first (backTo pos (starEach (e :: es) X.env)) (backToKw pos (keywordEach [] X.env))) := by rfl) : PE X (.Call (.Attribute o m apos) (e :: es) [] pos) (tMetX C m sp E ta t) := by
  obtain ⟨f, hm, F⟩ := c.ex
  refine ⟨fun pins s σ H Q I h => PySem.W.methodCall_KW (pl := pl) (thn (ho.run pins s σ H _ I h) fun u s1 ⟨x, G, J, rx, a, dx, fs, ex, ea, l, q⟩ => ?_) ht⟩
  subst ex
  obtain rfl : u = Value.ref a := rx
  exact getmeth_ok J ea c.cl hm l (PySem.W.callWith_K (first := [.ref a]) (h₀ := X.base) J.ok.mod.kin hm.kp (thn (ha.run pos pins s1 σ G _ J q) fun us s2 ⟨vs, G2, J2, r, q2⟩ => ⟨J2.kIn, wpAny_call (run_x (us := .ref a :: us) (vs := .ref a :: vs) F hr hx J2 (.cons rfl r) q2)⟩) hs hpl)
theorem pe_metX0 {pl : Sem Bool} (c : MetX X.prog X.w X.K X.mg X.base C m k sp) (hr : Room k X.A) (hx : At X E) (ho : PE X o ta)
    (ht : eval (.Call (.Attribute o m apos) [] [] pos) X.env = (do
      let ov ← eval o X.env
      standAt apos.atName
      let (f, first) ← holding [ov] (getMethod ov m pl)
      callWith pos f first (backTo pos (starEach [] X.env)) (backToKw pos (keywordEach [] X.env))) := by rfl) : PE X (.Call (.Attribute o m apos) [] [] pos) (tMetX C m sp E ta tNil) := by
  obtain ⟨f, hm, F⟩ := c.ex
  refine ⟨fun pins s σ H Q I h => PySem.W.methodCall_KW (pl := pl) (thn (ho.run pins s σ H _ I h) fun u s1 ⟨x, G, J, rx, a, dx, fs, ex, ea, l, q⟩ => ?_) ht⟩
  subst ex
  obtain rfl : u = Value.ref a := rx
  exact getmeth_ok J ea c.cl hm l (PySem.W.callWith_K0 J.kIn hm.kp (wpAny_call (run_x (us := [.ref a]) (vs := [.ref a]) F hr hx J (.cons rfl .nil) q)))
def tClmX (C : Addr) (sp : Sp) (E : L2.St → XK) (ta : TE) (t : TA) : TE := fun σ H Q => ta σ H fun x G => x = .ref C ∧ t σ G fun vs G2 => sp (.ref C :: vs) G2 Q (E σ)
theorem pe_clmX {pl : Sem Bool} (c : ClmX X.prog X.w X.K X.mg X.base C m k sp) (hr : Room k X.A) (hx : At X E) (ho : PE X o ta) (ha : PA X (e :: es) t)
    (hs : starEach (e :: es) X.env = (false, eval e X.env) :: starEach es X.env := by rfl) (hpl : (backTo pos (starEach es X.env)).any (·.1) = false := by rfl)
    (ht : eval (.Call (.Attribute o m apos) (e :: es) [] pos) X.env = (do
      let ov ← eval o X.env
      standAt apos.atName
      let (f, first) ← holding [ov] (getMethod ov m pl)
      callWith pos f first (backTo pos (starEach (e :: es) X.env)) (backToKw pos (keywordEach [] X.env))) := by rfl) : PE X (.Call (.Attribute o m apos) (e :: es) [] pos) (tClmX C sp E ta t) := by
  obtain ⟨mc, q0, g, r, cm, F⟩ := c.ex
  refine ⟨fun pins s σ H Q I h => PySem.W.methodCall_KW (pl := pl) (thn (ho.run pins s σ H _ I h) fun u s1 ⟨x, G, J, rx, ex, q⟩ => ?_) ht⟩
  subst ex
  obtain rfl : u = Value.ref C := rx
  refine ClX.getmethcm_ok J r cm fun s2 J2 => ClX.callwith_cm J2 (ClX.base_none J (Nat.le_refl _)) cm.fi (thn (ha.run pos _ s2 σ G _ J2 q) fun us s3 ⟨vs, G2, J3, rv, q2⟩ => ⟨⟨ClX.pin_at J3, J3.kIn⟩, ?_⟩) hs hpl
  exact thn (wpAny_call (PySem.W.method_call (ClX.pin_at J3) (run_x (us := .ref C :: us) (vs := .ref C :: vs) F hr hx J3 (.cons rfl rv) q2))) fun _ _ y => ClX.unpinE y
def tMakX (C : Addr) (sp : Sp) (E : L2.St → XK) (t : TA) : TE := fun σ H Q => t σ H fun vs G => ∀ x dx, G x = none → G dx = none → dx ≠ x → sp (.ref x :: vs) (upd (upd G dx (.own x)) x (.ins C dx [])) (fun v G2 => v = .non ∧ Q (.ref x) G2) (E σ)
theorem pe_makX (c : MakX X.prog X.w X.K X.mg X.base x C k sp) (hr : Room (k + 1) X.A) (hx : At X E) (ha : PA X (e :: es) t) (hg : Gl X x := by rfl) (hdb : (x == ("__debug__" : Str)) = false := by decide)
    (hs : starEach (e :: es) X.env = (false, eval e X.env) :: starEach es X.env := by rfl) (hpl : (backTo pos (starEach es X.env)).any (·.1) = false := by rfl) : PE X (.Call (.Name x p) (e :: es) [] pos) (tMakX C sp E t) := by
  obtain ⟨f, M, F⟩ := c.ex
  refine ⟨fun pins s σ H Q I h => wpAny_Call_Name_kw (ld_glob I hg c.gm (PySem.W.callWith_K (h₀ := X.base) I.ok.mod.kin M.kp (thn (ha.run pos pins s σ H _ I h) fun us s1 ⟨vs, G, J, r, q⟩ => ⟨J.kIn, ?_⟩) hs hpl) hdb)⟩
  have q := q (s1.heap.objs.size + 1) s1.heap.objs.size (J.hok.fresh (Nat.le_succ _)) (J.hok.fresh (Nat.le_refl _)) (Nat.ne_of_lt (Nat.lt_succ_self _))
  have J2 := Inv.made (C := C) J
  show wpAny _ _ (call (.ref C) us) _ _ _
  refine wpAny_call (make_map (f := f) J.kIn M.makes M.init (beq_iff_eq.mp M.fn) (codeAny_mono (F _ X.stack _ _ (Value.ref (s1.heap.objs.size + 1) :: us) (V.ref (s1.heap.objs.size + 1) :: vs) _ (E σ) (hr.make C us []) (J2.env0.make C us []) (.cons rfl r) q) fun z s' hz => ?_))
  rcases z with y | (_ | _ | _ | _)
  · exact hx σ pins _ _ y s' J2 hz
  · exact hz.elim
  · exact hz.elim
  · exact hz.elim
  · obtain ⟨v, G2, J3, rv, ev, q3⟩ := J2.after hz
    subst ev
    exact ⟨rv, .ref (s1.heap.objs.size + 1), G2, J3, rfl, q3⟩
end
end ErX

set_option Elab.async false
set_option linter.all false
set_option maxRecDepth 100000
set_option maxHeartbeats 4000000
/-! own errors as values: made by position or by name, their fields, isinstance -/
namespace PySem.EvX
open PySem PySem.Spec PyProof.Rows PySem.W PySem.Calls PySem.HandSPX
section
variable {pr : Program} {wd : World} {A : Around} {E : Value → Shared → Prop} {R : Result → Shared → Prop} {hp : Heap} {gs : Array GenState} {dr : Drawn} {tk : Nat} {os : OsState}
variable {nm qn : Str} {C N : Addr} {bs bm : List Value} {hd : Bool} {sn : List Str} {sub : List Value} {ab : Bool} {col : Option Bool} {dd : Option Addr} {k0 k1 k2 k3 k5 : Option Value} {rest : List Value} {kw : List (Str × Value)}
theorem has_ve (hb : refsVE bm = true) : (Value.ref C :: bm).contains (.type "ValueError") = true := by rw [List.contains_cons, refsVE_contains _ _ hb, F.excBase_ValueError.hasB, Bool.or_true]
theorem check_new (hb : refsVE bm = true) {Q : Unit → Shared → Prop} (hC : hp.get? C = some (excClassObj nm qn C N bs bm hd sn sub ab col dd k0 k1 k2 k3 k5 "ValueError.__new__")) (hq : Q () ⟨hp, gs, dr, tk, os⟩) :
    wpAny (model pr wd) A (checkBuiltinCall "ValueError.__new__" ⟨.ref C :: rest, kw⟩) Q E ⟨hp, gs, dr, tk, os⟩ := by
  have hc := has_ve (C := C) hb
  simp only [checkBuiltinCall, F.excBase_ValueError.newKind, F.excBase_ValueError.newSplit, F.excBase_ValueError.newRow]
  repeat (first | refine wpAny_loadPart_at hC ?_ | (refine wpAny_isSubtype_exc hC ?_; rw [hc]) | refine wpAny_staticBase_exc hC ?_ | refine wpAny_madeBy_exc hC ?_ | simp only [bne_self_eq_false, Bool.false_eq_true, if_false] | wp_step)
  exact hq
theorem new_err (hb : refsVE bm = true) (hz : rest.length ≤ sizeLine) (hC : hp.get? C = some (excClassObj nm qn C N bs bm hd sn sub ab col dd k0 k1 k2 k3 k5 "ValueError.__new__"))
    (hq : R (.ok (.ret (.ref (hp.objs.size + 1)))) ⟨(hp.push (PySem.W.kdv_tup rest)).push (excO C hp.objs.size), gs, dr, tk, os⟩) :
    codeAny (model pr wd) A (.builtin "ValueError.__new__" ⟨.ref C :: rest, kw⟩) R ⟨hp, gs, dr, tk, os⟩ := by
  have he := F.excBase_ValueError.ends
  have hc := has_ve (C := C) hb
  have ha : (Value.ref C :: bm).contains (.type "AttributeError") = false := by rw [List.contains_cons, refsVE_contains _ _ hb, F.excBase_ValueError.noAttr]; rfl
  have hn : (Value.ref C :: bm).contains (.type "NameError") = false := by rw [List.contains_cons, refsVE_contains _ _ hb, F.excBase_ValueError.noName]; rfl
  refine codeAny_builtinAt F.excBase_ValueError.entry (?_ : _); unfold Builtin.«BaseException.__new__»; refine wpAt_bind (?_ : _)
  show wpAt _ _ _ (stack >>= _) _ _ _; refine wpAt_bind (wpAt_stack fun a b => wpAt_of_wpAny ?_); wp_walk; refine wpAt_of_wpAny ?_; rw [F.excBase_ValueError.owner]
  repeat (first | with_reducible refine wpAny_madeHere_exc F.excBase_ValueError.canon hC ?_ | with_reducible refine wpAny_loadPart_at hC ?_ | (with_reducible refine wpAny_isSubtype_exc hC ?_; first | rw [hc] | rw [ha] | rw [hn]) | wp_step)
  show R _ _
  rw [Heap.size_push]
  exact hq
theorem type_err (hb : refsVE bm = true) (hz : rest.length ≤ sizeLine) {fI : Addr} {Q : Fin → Shared → Prop} (hC : hp.get? C = some (excClassObj nm qn C N bs bm hd sn sub ab col dd k0 k1 k2 k3 k5 "ValueError.__new__"))
    (hi : Looks (model pr wd) hp (typeLookup (.ref C) "__init__") (some (.ref fI))) (hs : ∀ a, Looks (model pr wd) hp (bindSpecial (.ref fI) a) (.ref fI, [a]))
    (hq : codeAny (model pr wd) A (.call (.ref fI) ⟨.ref (hp.objs.size + 1) :: rest, kw⟩) (fun r s' => match r with | .ok (.ret v) => v = .none ∧ Q (.done (.ret (.ref (hp.objs.size + 1)))) s' | .ok _ => False | .error e => E e s') ⟨(hp.push (PySem.W.kdv_tup rest)).push (excO C hp.objs.size), gs, dr, tk, os⟩) :
    wpAny (model pr wd) A (Builtin.«type.__call__» ⟨.ref C :: rest, kw⟩) Q E ⟨hp, gs, dr, tk, os⟩ := by
  repeat (first | with_reducible refine wpAny_loadPart_at hC ?_ | with_reducible refine wpAny_madeBy_exc hC ?_ | wp_step)
  refine codeAny_call_builtin_code (Code.quiet_builtin _ F.excBase_ValueError.quiet) (check_new hb hC (new_err hb hz hC ?_)); show wpAny _ _ _ _ _ _
  have kp : ∀ b o, hp.get? b = some o → ((hp.push (PySem.W.kdv_tup rest)).push (excO C hp.objs.size)).get? b = some o := fun b o e => Heap.get?_push_of_some _ (Heap.get?_push_of_some _ e)
  have hx : ((hp.push (PySem.W.kdv_tup rest)).push (excO C hp.objs.size)).get? (hp.objs.size + 1) = some (excO C hp.objs.size) := by heap_get
  have hcc : (Value.ref C :: bm).contains (.ref C) = true := by rw [List.contains_cons, BEq.rfl, Bool.true_or]
  have hC1 := kp _ _ hC; have i1 := hi.keeps kp; have s1 := (hs (.ref (hp.objs.size + 1))).keeps kp
  unfold isInstance
  repeat (first | with_reducible refine wpAny_loadPart_at hx ?_ | (with_reducible refine wpAny_isSubtype_exc hC1 ?_; rw [hcc]) | wp_step)
  show wpAny _ _ (typeLookup (.ref C) _) _ _ _; refine i1.at (wpAny_holding (wpAny_bind (s1.at (wpAny_bind (wpAny_call (codeAny_mono hq fun r s' z => ?_)))))); rcases r with e | (_ | _ | _ | _)
  · exact z
  · exact z.elim
  · exact z.elim
  · exact z.elim
  · obtain ⟨rfl, z⟩ := z
    first
      | exact wpAny_pure (wpAny_pure z)
      | (wp_walk; exact z)
theorem call_err (hb : refsVE bm = true) (hz : rest.length ≤ sizeLine) {fI : Addr} (hC : hp.get? C = some (excClassObj nm qn C N bs bm hd sn sub ab col dd k0 k1 k2 k3 k5 "ValueError.__new__"))
    (hi : Looks (model pr wd) hp (typeLookup (.ref C) "__init__") (some (.ref fI))) (hs : ∀ a, Looks (model pr wd) hp (bindSpecial (.ref fI) a) (.ref fI, [a]))
    (hq : codeAny (model pr wd) (A.under (.builtin "type.__call__" ⟨.ref C :: rest, kw⟩)) (.call (.ref fI) ⟨.ref (hp.objs.size + 1) :: rest, kw⟩) (InitBack (hp.objs.size + 1) R) ⟨(hp.push (PySem.W.kdv_tup rest)).push (excO C hp.objs.size), gs, dr, tk, os⟩) :
    codeAny (model pr wd) A (.call (.ref C) ⟨rest, kw⟩) R ⟨hp, gs, dr, tk, os⟩ := by
  have f1 := tc_lookup; have f2 := tc_bind (.ref C)
  have hT : (⟨hp, gs, dr, tk, os⟩ : Shared).TypeIs (.ref C) "type" := ⟨_, hC, rfl⟩
  refine codeAny_of_tree (?_ : _); show wpAny _ _ (callAny (.ref C) _) _ _ _
  repeat (any_goals (first | assumption | with_reducible refine wpAny_loadPart_at hC ?_ | wp_step))
  refine ⟨rfl, codeAny_call_builtin_at (Code.quiet_builtin _ (by decide +kernel)) entry_typeCall (wpAny_check_type_call_sub hC (type_err hb hz hC hi hs (codeAny_mono hq fun r s' z => ?_)))⟩
  rcases r with e | (v | _ | _ | _) <;> exact z
end
end PySem.EvX
namespace EvX
open PySem PySem.Spec PyProof.Rows L2 ErX
/-- an error class whose instances are values: what its __init__ takes by name, what it keeps -/
structure ErV (P : Program) (w : World) (K : PySem.W.Frag) (mg : Str → Option Value) (base : Heap) (k : Nat) (nm : Str) (C : Addr) (ks : List Str) (sp : Sp) : Prop where
  oex : OexC K C
  gm : mg nm = some (.ref C)
  ex : ∃ (fI : Addr) (fd : FuncData), PySem.W.findIn K (.ref C) "__init__" = some (some (.ref fI)) ∧ PySem.W.typeIn K (.ref fI) = some (.type "function") ∧ FnOk P w K mg base (L2.CX P w) k fI fd (("self" : Str) :: ks) sp ∧
    (∀ (s : Shared) (us : List Value), us.length = ks.length + 1 → BindsTo s fd ⟨us, []⟩ ((("self" : Str) :: ks).zip us)) ∧ ∀ (s : Shared) (u : Value) (us : List Value), us.length = ks.length → BindsTo s fd ⟨[u], ks.zip us⟩ ((("self" : Str) :: ks).zip (u :: us))
section
variable {X : Cx} {k : Nat} {nm f : Str} {C : Addr} {ks : List Str} {sp : Sp} {e : Expr} {es : List Expr} {kws : List Keyword} {ta tk : TA} {te : TE} {p pos : Pos}
/-- what follows a new error with these arguments -/
def MkV (C : Addr) (sp : Sp) (vs : List V) (H1 : Hp) (Q : VK) : Prop := vs.length ≤ 1000 ∧ ∀ a, H1 a = none → sp (.ref a :: vs) (upd H1 a (exo a C none)) (fun v H2 => v = .non ∧ Q (.ref a) H2) (fun _ _ _ => False)
theorem run_mk {pins : List (Addr × Obj)} {σ : L2.St} {H1 : Hp} {s1 : Shared} {Q : VK} {vs : List V} {us pv : List Value} {kw : List (Str × Value)} (M : ErV X.prog X.w X.K X.mg X.base k nm C ks sp) (hr : Room (k + 1) X.A) (I1 : Inv X pins σ H1 s1) (r1 : Vals vs us)
    (hpv : (pv = us ∧ kw = []) ∨ (pv = [] ∧ kw = ks.zip us)) (h : MkV C sp vs H1 Q) : wpAny (model X.prog X.w) X.A (call (.ref C) pv kw) (EP X pins σ Q) X.xe s1 := by
  obtain ⟨hz, q1⟩ := h
  obtain ⟨nm', q, N, bs, bm, sn, sub, ab, col, dd, k0, k1, k2, k3, k5, hC, hbm⟩ := M.oex.cls
  obtain ⟨fI, fd, iC, tI, F1, B1, B2⟩ := M.ex
  obtain ⟨hp, g, dr, tk, os⟩ := s1
  have hsz : hp.objs.size ≤ hp.objs.size + 1 := Nat.le_succ _
  have hn : H1 (hp.objs.size + 1) = none := I1.hok.fresh hsz
  have hq := q1 (hp.objs.size + 1) hn
  have kk : ∀ b o, hp.get? b = some o → ((hp.push (PySem.W.kdv_tup pv)).push (PySem.HandSPX.excO C hp.objs.size)).get? b = some o := fun b o e => Heap.get?_push_of_some _ (Heap.get?_push_of_some _ e)
  have hget : ((hp.push (PySem.W.kdv_tup pv)).push (PySem.HandSPX.excO C hp.objs.size)).get? (hp.objs.size + 1) = some (PySem.HandSPX.excO C hp.objs.size) := by heap_get
  have I2 : Inv X pins σ (upd H1 (hp.objs.size + 1) (exo (hp.objs.size + 1) C none)) ⟨(hp.push (PySem.W.kdv_tup pv)).push (PySem.HandSPX.excO C hp.objs.size), g, dr, tk, os⟩ := I1.laid (t' := tk) kk hsz (exo_ok hget)
  have r2 : Vals (V.ref (hp.objs.size + 1) :: vs) (Value.ref (hp.objs.size + 1) :: us) := .cons rfl r1
  have hl : (Value.ref (hp.objs.size + 1) :: us).length = ks.length + 1 := by rw [← r2.length, F1.len _ _ _ _ hq]; rfl
  have hus : pv.length ≤ sizeLine := by
    have := Paired.length r1
    rcases hpv with ⟨rfl, _⟩ | ⟨rfl, _⟩
    · exact Nat.le_trans (by omega : pv.length ≤ 1000) (by decide)
    · exact Nat.zero_le _
  have hbt : ∀ s : Shared, BindsTo s fd ⟨.ref (hp.objs.size + 1) :: pv, kw⟩ ((("self" : Str) :: ks).zip (.ref (hp.objs.size + 1) :: us)) := fun s => by
    rcases hpv with ⟨rfl, rfl⟩ | ⟨rfl, rfl⟩
    · exact B1 s _ hl
    · exact B2 s _ _ (Nat.succ.inj hl)
  refine wpAny_call (PySem.EvX.call_err (kw := kw) hbm hus (I1.kIn _ _ hC) (PySem.W.looks_findIn I1.kIn iC) (fun a => PySem.W.bind_fn I1.kIn a tI)
    (codeAny_mono (F1.run _ X.stack _ _ ⟨Value.ref (hp.objs.size + 1) :: pv, kw⟩ (Value.ref (hp.objs.size + 1) :: us) _ _ (fun _ _ _ => False) (hr.make C pv kw) (I2.env0.make C pv kw) (hbt _) r2 hq) fun r s' hq' => ?_))
  rcases r with er | (_ | _ | _ | _)
  · exact passL pins σ _ _ er s' I2 hq'
  · exact hq'.elim
  · exact hq'.elim
  · exact hq'.elim
  · obtain ⟨v, H2, I3, rv, ev, q2⟩ := I2.after hq'
    subst ev
    exact ⟨rv, V.ref (hp.objs.size + 1), H2, I3, rfl, q2⟩
def tMkV (C : Addr) (sp : Sp) (ta : TA) : TE := fun σ H Q => ta σ H fun vs H1 => MkV C sp vs H1 Q
theorem pe_mkV (M : ErV X.prog X.w X.K X.mg X.base k nm C ks sp) (hr : Room (k + 1) X.A) (ha : PA X (e :: es) ta) (hg : Gl X nm := by rfl) (hdb : (nm == ("__debug__" : Str)) = false := by decide)
    (hs : starEach (e :: es) X.env = (false, eval e X.env) :: starEach es X.env := by rfl) (hpl : (backTo pos (starEach es X.env)).any (·.1) = false := by rfl) : PE X (.Call (.Name nm p) (e :: es) [] pos) (tMkV C sp ta) :=
  ⟨fun pins s σ H Q I h => wpAny_Call_Name_kw (ld_glob I hg M.gm (PySem.W.callWith_K (h₀ := X.base) I.ok.mod.kin M.oex.kC (thn (ha.run pos pins s σ H _ I h) fun us s1 ⟨vs, H1, I1, r1, q1⟩ => ⟨I1.kIn, run_mk M hr I1 r1 (.inl ⟨rfl, rfl⟩) q1⟩) hs hpl) hdb)⟩
theorem pe_mkVK (M : ErV X.prog X.w X.K X.mg X.base k nm C ks sp) (hr : Room (k + 1) X.A) (hkw : PK X kws tk) (hg : Gl X nm := by rfl) (hdb : (nm == ("__debug__" : Str)) = false := by decide)
    (hall : (backToKw pos (keywordEach kws X.env)).all (·.1.isSome) = true := by rfl) (hks : (backToKw pos (keywordEach kws X.env)).filterMap (·.1) = ks := by rfl)
    (hpl : ((backTo pos (starEach [] X.env)).any (·.1) || (backToKw pos (keywordEach kws X.env)).any (·.1.isNone)) = false := by rfl) : PE X (.Call (.Name nm p) [] kws pos) (tMkV C sp tk) := by
  refine ⟨fun pins s σ H Q I h => wpAny_Call_Name_kw (ld_glob I hg M.gm ?_ hdb)⟩
  refine PySem.W.callWith_KW0 (h₀ := X.base) I.ok.mod.kin M.oex.kC hall (thn (hkw.run pos pins s σ H _ I h) fun ws s2 ⟨zs, H2, I2, rz, q2⟩ => ⟨I2.kIn, ?_⟩) hpl
  rw [hks]
  exact run_mk M hr I2 rz (.inr ⟨rfl, rfl⟩) q2
/-- a field of an error, read -/
def tFv (K : PySem.W.Frag) (f : Str) (te : TE) : TE := fun σ H Q => te σ H fun x H1 => ∃ (a C d : Addr) (fs : List (Str × V)) (v : V), x = .ref a ∧ H1 a = some (exo a C (some d)) ∧ H1 d = some (exd d fs) ∧ fs.lookup f = some v ∧ XfC K C ∧ PySem.W.findIn K (.ref C) f = some none ∧ Q v H1
theorem inst_v {H : Hp} {a C d : Addr} {fs : List (Str × V)} {s : Shared} {P : Program} {w : World} (hok : HOk P w H s.heap) (ha : H a = some (exo a C (some d))) (hd : H d = some (exd d fs)) : ∃ oe od, PySem.W.InstAt s.heap a oe C (some od) ∧ ∃ mA : Str → Option Value, (∀ n, PySem.W.lookIn n od = some (mA n)) ∧ ∀ n, RelO (fs.lookup n) (mA n) := by
  obtain ⟨t1, ho⟩ := exo_at hok ha
  obtain ⟨mA, hns, hr⟩ := exd_at hok hd
  obtain ⟨od, hod, hl⟩ := lookIn_ns hns
  exact ⟨_, od, ⟨ho, rfl, rfl, hod⟩, mA, hl, hr⟩
theorem pe_fv {pos : Pos} (he : PE X e te) (hb : attributeBase e f X.env (eval e X.env) = eval e X.env := by rfl) : PE X (.Attribute e f pos) (tFv X.K f te) := by
  refine ⟨fun pins s σ H Q I h => attr_of hb (thn (he.run pins s σ H _ I h) fun u s1 ⟨x, H1, I1, rx, a, C, d, fs, v, ex, ha, hd, l, T, hno, q⟩ => ?_)⟩
  subst ex
  obtain rfl : u = Value.ref a := rx
  obtain ⟨oe, od, J, mA, hl, hr⟩ := inst_v I1.hok ha hd
  obtain ⟨u, hu, ru⟩ := RelO.some_of (v := v) (o := mA f) (by rw [← l]; exact hr f)
  exact HandSPX.exc_get I1.kIn J T.ga T.gg T.exC (PySem.W.findObj_own T.hdC hno rfl (by rw [hl, hu])) (handed_of ru) ⟨v, H1, I1.tok _, ru, q⟩
/-- an error of the class D, with its dict or without one -/
def ErrAt (H : Hp) (a D : Addr) : Prop := (∃ d fs, H a = some (exo a D (some d)) ∧ H d = some (exd d fs)) ∨ H a = some (ExO (.ref D) a)
theorem call_isV : CallR X (.builtin "isinstance") (fun xs H Q => ∃ (a D : Addr) (c : V) (cv : Value) (b : Bool), xs = [.ref a, c] ∧ ErrAt H a D ∧ L2.ExcC X.K D ∧ (∀ u, RelV c u → u = cv) ∧ PySem.W.kitOne X.K (.ref D) cv = some b ∧ Q (.bl b) H) := by
  intro pins s σ H xs us Q I r ⟨a, D, c, cv, b, ex, hE, T, hcv, e, q⟩
  subst ex
  cases r with
  | cons rx rr =>
    cases rr with
    | cons rt rr =>
      cases rr
      cases rx
      obtain rfl := hcv _ rt
      rcases hE with ⟨d, fs, ha, hd⟩ | ha
      · obtain ⟨oe, od, J, _⟩ := inst_v I.hok ha hd
        exact PySem.W.kia_one (kit_err T) I.kIn J e (fun z => nomatch z) fun tk => ⟨.bl b, H, I.kept (t' := tk) fun _ _ z => z, rfl, q⟩
      · obtain ⟨⟨oe, vs, ho, hz, hd, _⟩, _⟩ := I.hok a _ ha
        have J : PySem.W.InstAt s.heap a oe D none := by
          obtain ⟨oc, od, oda, osl⟩ := oe
          obtain ⟨h1, h2⟩ := hz
          dsimp only at h1 h2 hd
          subst h1 h2 hd
          exact ⟨ho, rfl, rfl, trivial⟩
        exact PySem.W.kia_one (PySem.W.handS_kitx_exc T.hg T.hk T.hs T.hd T.ha T.hn T.ht T.hm) I.kIn J e (fun z => nomatch z) fun tk => ⟨.bl b, H, I.kept (t' := tk) fun _ _ z => z, rfl, q⟩
end
end EvX

set_option Elab.async false
set_option linter.all false
set_option maxRecDepth 100000
set_option maxHeartbeats 2000000
/-! own errors as values: what their __init__ promise -/
namespace EvX
open PySem PySem.Spec PyProof.Rows L2 ErX
/-- what an error's field may be: a moderate text, a moderate int of either sign -/
def OkW (v : V) : Prop := (∃ y, v = .str y ∧ Sm y) ∨ ∃ i : Int, v = .int i ∧ i.natAbs < 10 ^ 60
theorem intw_len {i : Int} (h : i.natAbs < 10 ^ 60) : ((toString i : String) : Str).length ≤ 61 := by
  show (PySem.Str.ofString (toString i)).length ≤ 61
  rw [PySem.ofString_length]
  exact PySem.int_text_length_le10 (k := 60) (by decide) h
theorem intw_log {i : Int} (h : i.natAbs < 10 ^ 60) : i.natAbs.log2 < 1920 := by
  have h1 : i.natAbs < 2 ^ 200 := Nat.lt_trans h (by decide)
  by_cases z : i.natAbs = 0
  · rw [z]; decide
  · have := (Nat.log2_lt z).mpr h1
    omega
/-- __init__ of an error of one field -/
def spEw (C : Addr) (f : Str) : Sp := fun vs H Q _ => ∃ (a : Addr) (v : V), vs = [.ref a, v] ∧ OkW v ∧ H a = some (exo a C none) ∧
  ∀ d H', H d = none → d ≠ a → H' a = some (exo a C (some d)) → H' d = some (exd d [(f, v)]) → (∀ b o, b ≠ a → H b = some o → H' b = some o) → Q .non H'
/-- __init__ of an error of three fields -/
def spE3 (C : Addr) (f g j : Str) : Sp := fun vs H Q _ => ∃ (a : Addr) (x y z : V), vs = [.ref a, x, y, z] ∧ OkW x ∧ H a = some (exo a C none) ∧
  ∀ d H', H d = none → d ≠ a → H' a = some (exo a C (some d)) → H' d = some (exd d [(j, z), (g, y), (f, x)]) → (∀ b o, b ≠ a → H b = some o → H' b = some o) → Q .non H'
/-- at a is an error of the class C with these fields -/
def EAt (H : Hp) (a C : Addr) (fs : List (Str × V)) : Prop := ∃ d, H a = some (exo a C (some d)) ∧ H d = some (exd d fs)
theorem EAt.same {H H' : Hp} {a C : Addr} {fs : List (Str × V)} (h : EAt H a C fs) (s : ∀ b o, H b = some o → H' b = some o) : EAt H' a C fs := by
  obtain ⟨d, h1, h2⟩ := h
  exact ⟨d, s _ _ h1, s _ _ h2⟩
theorem EAt.err {H : Hp} {a C : Addr} {fs : List (Str × V)} (h : EAt H a C fs) : ErrAt H a C := by
  obtain ⟨d, h1, h2⟩ := h
  exact .inl ⟨d, fs, h1, h2⟩
theorem e_new {C a d : Addr} {H1 H' : Hp} {o : HO} {fs : List (Str × V)} (ha : H1 a = none) (h1 : H' a = some (exo a C (some d))) (h2 : H' d = some (exd d fs)) (h3 : ∀ b u, b ≠ a → upd H1 a o b = some u → H' b = some u) : EAt H' a C fs ∧ ∀ b u, H1 b = some u → H' b = some u :=
  ⟨⟨d, h1, h2⟩, fun b u e => h3 b u (ne_of_none e ha) ((upd_ne (ne_of_none e ha)).trans e)⟩
theorem mk1 {C : Addr} {f : Str} {v : V} {H1 : Hp} {Q : VK} (ok : OkW v) (k : ∀ a H', H1 a = none → EAt H' a C [(f, v)] → (∀ b u, H1 b = some u → H' b = some u) → Q (.ref a) H') : MkV C (spEw C f) [v] H1 Q :=
  ⟨by show 1 ≤ 1000; decide, fun a ha => ⟨a, v, rfl, ok, upd_same, fun d H' _ _ h1 h2 h3 => ⟨rfl, k a H' ha (e_new ha h1 h2 h3).1 (e_new ha h1 h2 h3).2⟩⟩⟩
theorem mk3 {C : Addr} {f g j : Str} {x y z : V} {H1 : Hp} {Q : VK} (ok : OkW x) (k : ∀ a H', H1 a = none → EAt H' a C [(j, z), (g, y), (f, x)] → (∀ b u, H1 b = some u → H' b = some u) → Q (.ref a) H') : MkV C (spE3 C f g j) [x, y, z] H1 Q :=
  ⟨by show 3 ≤ 1000; decide, fun a ha => ⟨a, x, y, z, rfl, ok, upd_same, fun d H' _ _ h1 h2 h3 => ⟨rfl, k a H' ha (e_new ha h1 h2 h3).1 (e_new ha h1 h2 h3).2⟩⟩⟩
end EvX

set_option Elab.async false
set_option linter.all false
set_option maxRecDepth 100000
set_option maxHeartbeats 4000000
namespace Ow
open PySem PySem.Spec PyProof.Rows L2 ErX
local macro_rules | `(tactic| walk_at "rd") => `(tactic| repeat (first | (refine ⟨_, rfl, ?_⟩) | (refine ⟨_, _, rfl, rfl, ?_⟩) | (refine ⟨rfl, ?_⟩) | (refine ⟨_, _, rfl, ?_⟩) | (refine Or.inl ⟨_, rfl, ?_⟩) | (refine ⟨(by first | (show (0 : Int) < (_ : Int); decide) | exact Or.inl ⟨by decide, by decide⟩ | exact Or.inr ⟨by decide, by decide⟩ | exact ⟨by decide, by decide⟩ | exact ⟨by decide, by decide, by decide⟩), ?_⟩)))
section
variable {P : Program} {w : World} {K : PySem.W.Frag} {mg : Str → Option Value} {base : Heap}
abbrev s_law_number : Stmt := top 21
theorem sc_law_number : FnScope ["bag"] ["bag"] (defScope s_law_number) := ⟨rfl, rfl, rfl, by decide +kernel, rfl, by decide +kernel, by decide +kernel⟩
theorem ok_number {f : Addr} {fd : FuncData} (F : Fun K "_law_number" "_law_number" s_law_number f fd) (T : Txt mg) (c_take : Cal P w K mg base "_law_take" 1 spTake) : FnOk P w K mg base CX0 2 f fd ["bag"] spNumber := by
  refine F.ok sc_law_number (fun vs H Q E h => ?_) (fun cdv A outer s H vs Q E hr h => ?_)
  · obtain ⟨b, n, rfl, _⟩ := h
    rfl
  · obtain ⟨b, n, rfl, hB, hn, k⟩ := h
    have hu := hu_of hr
    refine ⟨_, (pss_cons (ps_if (pt_cmpR op_gt (pe_cal c_take (hr.mono (by decide)) (pa_cons (pv 0) (pa_cons pe_int pa_nil))) pe_int (nomark _)) (pss_one (ps_ret (pe_op op_sub (pe_cal c_take (hr.mono (by decide)) (pa_cons (pv 0) (pa_cons pe_int pa_nil))) pe_int))) pss_nil)
      (pss_one (ps_ret (pe_op op_sub (pe_cal c_take (hr.mono (by decide)) (pa_cons (pv 0) (pa_cons (pe_op op_add (pe_op op_mul pe_int (pe_op op_pow pe_int pe_int)) pe_int) pa_nil))) (pe_op op_pow pe_int pe_int))))), ?_⟩
    walk_at "rd"
    refine ⟨b, n, 3, rfl, hB, by omega, by decide, by decide, fun r H1 r0 r1 B1 S1 => ?_⟩
    walk_at "rd"
    refine ite2 (fun h => ?_) (fun h => ?_)
    · walk_at "rd"
      refine ⟨b, n + 1, 9, rfl, B1, by omega, by decide, by decide, fun r' H2 a0 a1 B2 S2 => ?_⟩
      walk_at "rd"
      exact k _ _ (by omega) B2 (S1.trans S2)
    · walk_at "rd"
      refine ⟨b, n + 1, 2 * 10 ^ 25 + 1, rfl, B1, by omega, by decide, by decide, fun r' H2 a0 a1 B2 S2 => ?_⟩
      walk_at "rd"
      refine k _ _ ?_ B2 (S1.trans S2)
      show (r' - 10 ^ 25).natAbs ≤ 10 ^ 25
      omega
def spPick : Sp := fun vs H Q _ => ∃ (b l : Addr) (n : Nat) (xs : List V), vs = [.ref b, .ref l] ∧ BagAt H b n ∧ n < 900000000 ∧ H l = some (.lst xs) ∧ l ≠ b ∧ 0 < xs.length ∧ xs.length ≤ 64 ∧ ∀ (i : Nat) v H', xs[i]? = some v → BagAt H' b (n + 1) → Stay b H H' → Q v H'
abbrev s_law_of : Stmt := top 20
theorem sc_law_of : FnScope ["bag", "some"] ["bag", "some"] (defScope s_law_of) := ⟨rfl, rfl, rfl, by decide +kernel, rfl, by decide +kernel, by decide +kernel⟩
theorem ok_pick {f : Addr} {fd : FuncData} (F : Fun K "_law_of" "_law_of" s_law_of f fd) (T : Txt mg) (c_take : Cal P w K mg base "_law_take" 1 spTake) : FnOk P w K mg base CX0 2 f fd ["bag", "some"] spPick := by
  refine F.ok sc_law_of (fun vs H Q E h => ?_) (fun cdv A outer s H vs Q E hr h => ?_)
  · obtain ⟨b, l, n, xs, rfl, _⟩ := h
    rfl
  · obtain ⟨b, l, n, xs, rfl, hB, hn, hl, lb, h0, h64, k⟩ := h
    have hu := hu_of hr
    refine ⟨_, (pss_one (ps_ret (pe_ix ix_list (pv 1) (pe_cal c_take (hr.mono (by decide)) (pa_cons (pv 0) (pa_cons (pe_callB call_len_seq (by rfl) T.n_len (by decide +kernel) (pa_cons (pv 1) pa_nil)) pa_nil))) (fun _ _ => rfl)))), ?_⟩
    walk_at "rd"
    refine ⟨l, _, rfl, .inl (SqL.of hl), ?_⟩
    refine ⟨b, n, _, rfl, hB, by omega, by omega, by omega, fun r H1 r0 r1 B1 S1 => ?_⟩
    obtain ⟨i, rfl⟩ := Int.eq_ofNat_of_zero_le r0
    have hi : i < xs.length := by omega
    refine ⟨l, xs, _, xs[i], rfl, rfl, SqL.of (S1 _ _ lb hl), atI_nat (List.getElem?_eq_getElem hi), ?_⟩
    exact k i _ _ (List.getElem?_eq_getElem hi) B1 S1
abbrev s_BadSymbolD_initD : Stmt := inClass (top 2) 0
theorem sc_BadSymbolD_initD : FnScopeF ["self", "symbol"] ["self", "symbol"] (defScope s_BadSymbolD_initD) := ⟨rfl, rfl, rfl, by decide +kernel, rfl, by decide +kernel, by decide +kernel, by decide +kernel, rfl, rfl⟩
theorem ok_er_BadSymbol {f cc cda C : Addr} {oc kV dc pm ct : Value} {od an : Option Addr} {sl : Array (Option Value)} (lk : K.lookup f = some ⟨oc, od, .func (PySem.W.ksFn "__init__" "BadSymbol.__init__" (defArgs s_BadSymbolD_initD) (defBody s_BadSymbolD_initD) (defScope s_BadSymbolD_initD) .none kV dc pm an (.ref cda) ct cc), sl⟩) (hcd : PySem.W.codeIn K (.ref cda) "BadSymbol.__init__" = true) (G : ErC K P C f cc cda) (no0 : PySem.W.findIn K (.ref C) "symbol" = some none) :
    FnOk P w K mg base (L2.CX P w) 2 f (PySem.W.ksFn "__init__" "BadSymbol.__init__" (defArgs s_BadSymbolD_initD) (defBody s_BadSymbolD_initD) (defScope s_BadSymbolD_initD) .none kV dc pm an (.ref cda) ct cc) ["self", "symbol"] (EvX.spEw C "symbol") := by
  refine fn_err lk rfl hcd sc_BadSymbolD_initD G (fun env => ⟨_, rfl⟩) (fun _ => rfl) (fun _ => rfl) rfl rfl (fun vs H Q E h => ?_) (fun A outer s H vs Q E hr h => ?_)
  · obtain ⟨a, v, rfl, _⟩ := h
    rfl
  · obtain ⟨a, v, rfl, ok, ha, k⟩ := h
    refine ⟨_, _, a, _, rfl, ha, (pe_joined (PJ.cons (pe_fmtR (pv 1)) (PJ.cons pe_str PJ.nil))), (pss_one (ps_ost (pv 0) (pv 1))), ?_⟩
    have fin : ∀ H1, H1 = H → (tOst K "symbol" (tVar 0) (tVar 1)) { nx := fun _ H' => Q .non H', rt := Q } (L2.start ["self", "symbol"] [.ref a, v]) H1 := fun H1 e => by
      subst e
      refine ⟨v, rfl, .ref a, rfl, a, C, rfl, G.oex, no0, .inl ⟨ha, fun d hd da => k d _ hd da upd_same ?_ fun b o ba e => ?_⟩⟩
      · rw [upd_ne da]; exact upd_same
      · rw [upd_ne ba, upd_ne (ne_of_none e hd)]; exact e
    have c9 : Str.empty.length = 0 := rfl
    have c0 : (" is no symbol" : Str).length = 13 := by decide +kernel
    rcases ok with ⟨y, rfl, hy⟩ | ⟨i, rfl, hi⟩
    · have hr := hy.repr
      have hs := hy.sz
      exact ⟨_, rfl, .inl ⟨y, rfl, sz_ok (by omega), _, rfl, sz_ok (by simp only [app_len, c9, c0]; omega), ⟨_, rfl, sz_ok (by simp only [app_len, c9, c0]; omega), ⟨ha, fin _ rfl⟩⟩⟩⟩
    · have hs := EvX.intw_len hi
      exact ⟨_, rfl, .inr ⟨i, rfl, EvX.intw_log hi, _, rfl, sz_ok (by simp only [app_len, c9, c0]; omega), ⟨_, rfl, sz_ok (by simp only [app_len, c9, c0]; omega), ⟨ha, fin _ rfl⟩⟩⟩⟩
abbrev s_BadDomainD_initD : Stmt := inClass (top 3) 0
theorem sc_BadDomainD_initD : FnScopeF ["self", "symbol"] ["self", "symbol"] (defScope s_BadDomainD_initD) := ⟨rfl, rfl, rfl, by decide +kernel, rfl, by decide +kernel, by decide +kernel, by decide +kernel, rfl, rfl⟩
theorem ok_er_BadDomain {f cc cda C : Addr} {oc kV dc pm ct : Value} {od an : Option Addr} {sl : Array (Option Value)} (lk : K.lookup f = some ⟨oc, od, .func (PySem.W.ksFn "__init__" "BadDomain.__init__" (defArgs s_BadDomainD_initD) (defBody s_BadDomainD_initD) (defScope s_BadDomainD_initD) .none kV dc pm an (.ref cda) ct cc), sl⟩) (hcd : PySem.W.codeIn K (.ref cda) "BadDomain.__init__" = true) (G : ErC K P C f cc cda) (no0 : PySem.W.findIn K (.ref C) "symbol" = some none) :
    FnOk P w K mg base (L2.CX P w) 2 f (PySem.W.ksFn "__init__" "BadDomain.__init__" (defArgs s_BadDomainD_initD) (defBody s_BadDomainD_initD) (defScope s_BadDomainD_initD) .none kV dc pm an (.ref cda) ct cc) ["self", "symbol"] (EvX.spEw C "symbol") := by
  refine fn_err lk rfl hcd sc_BadDomainD_initD G (fun env => ⟨_, rfl⟩) (fun _ => rfl) (fun _ => rfl) rfl rfl (fun vs H Q E h => ?_) (fun A outer s H vs Q E hr h => ?_)
  · obtain ⟨a, v, rfl, _⟩ := h
    rfl
  · obtain ⟨a, v, rfl, ok, ha, k⟩ := h
    refine ⟨_, _, a, _, rfl, ha, (pe_joined (PJ.cons (pe_fmtR (pv 1)) (PJ.cons pe_str PJ.nil))), (pss_one (ps_ost (pv 0) (pv 1))), ?_⟩
    have fin : ∀ H1, H1 = H → (tOst K "symbol" (tVar 0) (tVar 1)) { nx := fun _ H' => Q .non H', rt := Q } (L2.start ["self", "symbol"] [.ref a, v]) H1 := fun H1 e => by
      subst e
      refine ⟨v, rfl, .ref a, rfl, a, C, rfl, G.oex, no0, .inl ⟨ha, fun d hd da => k d _ hd da upd_same ?_ fun b o ba e => ?_⟩⟩
      · rw [upd_ne da]; exact upd_same
      · rw [upd_ne ba, upd_ne (ne_of_none e hd)]; exact e
    have c9 : Str.empty.length = 0 := rfl
    have c0 : (" does not fit in the domain" : Str).length = 27 := by decide +kernel
    rcases ok with ⟨y, rfl, hy⟩ | ⟨i, rfl, hi⟩
    · have hr := hy.repr
      have hs := hy.sz
      exact ⟨_, rfl, .inl ⟨y, rfl, sz_ok (by omega), _, rfl, sz_ok (by simp only [app_len, c9, c0]; omega), ⟨_, rfl, sz_ok (by simp only [app_len, c9, c0]; omega), ⟨ha, fin _ rfl⟩⟩⟩⟩
    · have hs := EvX.intw_len hi
      exact ⟨_, rfl, .inr ⟨i, rfl, EvX.intw_log hi, _, rfl, sz_ok (by simp only [app_len, c9, c0]; omega), ⟨_, rfl, sz_ok (by simp only [app_len, c9, c0]; omega), ⟨ha, fin _ rfl⟩⟩⟩⟩
abbrev s_BadFunctionD_initD : Stmt := inClass (top 4) 0
theorem sc_BadFunctionD_initD : FnScopeF ["self", "row"] ["self", "row"] (defScope s_BadFunctionD_initD) := ⟨rfl, rfl, rfl, by decide +kernel, rfl, by decide +kernel, by decide +kernel, by decide +kernel, rfl, rfl⟩
theorem ok_er_BadFunction {f cc cda C : Addr} {oc kV dc pm ct : Value} {od an : Option Addr} {sl : Array (Option Value)} (lk : K.lookup f = some ⟨oc, od, .func (PySem.W.ksFn "__init__" "BadFunction.__init__" (defArgs s_BadFunctionD_initD) (defBody s_BadFunctionD_initD) (defScope s_BadFunctionD_initD) .none kV dc pm an (.ref cda) ct cc), sl⟩) (hcd : PySem.W.codeIn K (.ref cda) "BadFunction.__init__" = true) (G : ErC K P C f cc cda) (no0 : PySem.W.findIn K (.ref C) "row" = some none) :
    FnOk P w K mg base (L2.CX P w) 2 f (PySem.W.ksFn "__init__" "BadFunction.__init__" (defArgs s_BadFunctionD_initD) (defBody s_BadFunctionD_initD) (defScope s_BadFunctionD_initD) .none kV dc pm an (.ref cda) ct cc) ["self", "row"] (EvX.spEw C "row") := by
  refine fn_err lk rfl hcd sc_BadFunctionD_initD G (fun env => ⟨_, rfl⟩) (fun _ => rfl) (fun _ => rfl) rfl rfl (fun vs H Q E h => ?_) (fun A outer s H vs Q E hr h => ?_)
  · obtain ⟨a, v, rfl, _⟩ := h
    rfl
  · obtain ⟨a, v, rfl, ok, ha, k⟩ := h
    refine ⟨_, _, a, _, rfl, ha, (pe_joined (PJ.cons pe_str (PJ.cons (pe_fmtR (pv 1)) (PJ.cons pe_str PJ.nil)))), (pss_one (ps_ost (pv 0) (pv 1))), ?_⟩
    have fin : ∀ H1, H1 = H → (tOst K "row" (tVar 0) (tVar 1)) { nx := fun _ H' => Q .non H', rt := Q } (L2.start ["self", "row"] [.ref a, v]) H1 := fun H1 e => by
      subst e
      refine ⟨v, rfl, .ref a, rfl, a, C, rfl, G.oex, no0, .inl ⟨ha, fun d hd da => k d _ hd da upd_same ?_ fun b o ba e => ?_⟩⟩
      · rw [upd_ne da]; exact upd_same
      · rw [upd_ne ba, upd_ne (ne_of_none e hd)]; exact e
    have c9 : Str.empty.length = 0 := rfl
    have c0 : ("row " : Str).length = 4 := by decide +kernel
    have c1 : (" is wrong" : Str).length = 9 := by decide +kernel
    rcases ok with ⟨y, rfl, hy⟩ | ⟨i, rfl, hi⟩
    · have hr := hy.repr
      have hs := hy.sz
      exact ⟨_, rfl, sz_ok (by simp only [app_len, c9, c0, c1]; omega), ⟨_, rfl, .inl ⟨y, rfl, sz_ok (by omega), _, rfl, sz_ok (by simp only [app_len, c9, c0, c1]; omega), ⟨_, rfl, sz_ok (by simp only [app_len, c9, c0, c1]; omega), ⟨ha, fin _ rfl⟩⟩⟩⟩⟩
    · have hs := EvX.intw_len hi
      exact ⟨_, rfl, sz_ok (by simp only [app_len, c9, c0, c1]; omega), ⟨_, rfl, .inr ⟨i, rfl, EvX.intw_log hi, _, rfl, sz_ok (by simp only [app_len, c9, c0, c1]; omega), ⟨_, rfl, sz_ok (by simp only [app_len, c9, c0, c1]; omega), ⟨ha, fin _ rfl⟩⟩⟩⟩⟩
abbrev s_TooManyD_initD : Stmt := inClass (top 5) 0
theorem sc_TooManyD_initD : FnScopeF ["self", "what"] ["self", "what"] (defScope s_TooManyD_initD) := ⟨rfl, rfl, rfl, by decide +kernel, rfl, by decide +kernel, by decide +kernel, by decide +kernel, rfl, rfl⟩
theorem ok_er_TooMany {f cc cda C : Addr} {oc kV dc pm ct : Value} {od an : Option Addr} {sl : Array (Option Value)} (lk : K.lookup f = some ⟨oc, od, .func (PySem.W.ksFn "__init__" "TooMany.__init__" (defArgs s_TooManyD_initD) (defBody s_TooManyD_initD) (defScope s_TooManyD_initD) .none kV dc pm an (.ref cda) ct cc), sl⟩) (hcd : PySem.W.codeIn K (.ref cda) "TooMany.__init__" = true) (G : ErC K P C f cc cda) (no0 : PySem.W.findIn K (.ref C) "what" = some none) :
    FnOk P w K mg base (L2.CX P w) 2 f (PySem.W.ksFn "__init__" "TooMany.__init__" (defArgs s_TooManyD_initD) (defBody s_TooManyD_initD) (defScope s_TooManyD_initD) .none kV dc pm an (.ref cda) ct cc) ["self", "what"] (EvX.spEw C "what") := by
  refine fn_err lk rfl hcd sc_TooManyD_initD G (fun env => ⟨_, rfl⟩) (fun _ => rfl) (fun _ => rfl) rfl rfl (fun vs H Q E h => ?_) (fun A outer s H vs Q E hr h => ?_)
  · obtain ⟨a, v, rfl, _⟩ := h
    rfl
  · obtain ⟨a, v, rfl, ok, ha, k⟩ := h
    refine ⟨_, _, a, _, rfl, ha, (pe_joined (PJ.cons pe_str (PJ.cons (pe_fmt (pv 1)) PJ.nil))), (pss_one (ps_ost (pv 0) (pv 1))), ?_⟩
    have fin : ∀ H1, H1 = H → (tOst K "what" (tVar 0) (tVar 1)) { nx := fun _ H' => Q .non H', rt := Q } (L2.start ["self", "what"] [.ref a, v]) H1 := fun H1 e => by
      subst e
      refine ⟨v, rfl, .ref a, rfl, a, C, rfl, G.oex, no0, .inl ⟨ha, fun d hd da => k d _ hd da upd_same ?_ fun b o ba e => ?_⟩⟩
      · rw [upd_ne da]; exact upd_same
      · rw [upd_ne ba, upd_ne (ne_of_none e hd)]; exact e
    have c9 : Str.empty.length = 0 := rfl
    have c0 : ("too many " : Str).length = 9 := by decide +kernel
    rcases ok with ⟨y, rfl, hy⟩ | ⟨i, rfl, hi⟩
    · have hr := hy.repr
      have hs := hy.sz
      exact ⟨_, rfl, sz_ok (by simp only [app_len, c9, c0]; omega), ⟨_, rfl, .inl ⟨y, rfl, sz_ok (by omega), _, rfl, sz_ok (by simp only [app_len, c9, c0]; omega), ⟨ha, fin _ rfl⟩⟩⟩⟩
    · have hs := EvX.intw_len hi
      exact ⟨_, rfl, sz_ok (by simp only [app_len, c9, c0]; omega), ⟨_, rfl, .inr ⟨i, rfl, EvX.intw_log hi, _, rfl, sz_ok (by simp only [app_len, c9, c0]; omega), ⟨ha, fin _ rfl⟩⟩⟩⟩
abbrev s_NotCutD_initD : Stmt := inClass (top 6) 0
theorem sc_NotCutD_initD : FnScopeF ["self", "row"] ["self", "row"] (defScope s_NotCutD_initD) := ⟨rfl, rfl, rfl, by decide +kernel, rfl, by decide +kernel, by decide +kernel, by decide +kernel, rfl, rfl⟩
theorem ok_er_NotCut {f cc cda C : Addr} {oc kV dc pm ct : Value} {od an : Option Addr} {sl : Array (Option Value)} (lk : K.lookup f = some ⟨oc, od, .func (PySem.W.ksFn "__init__" "NotCut.__init__" (defArgs s_NotCutD_initD) (defBody s_NotCutD_initD) (defScope s_NotCutD_initD) .none kV dc pm an (.ref cda) ct cc), sl⟩) (hcd : PySem.W.codeIn K (.ref cda) "NotCut.__init__" = true) (G : ErC K P C f cc cda) (no0 : PySem.W.findIn K (.ref C) "row" = some none) :
    FnOk P w K mg base (L2.CX P w) 2 f (PySem.W.ksFn "__init__" "NotCut.__init__" (defArgs s_NotCutD_initD) (defBody s_NotCutD_initD) (defScope s_NotCutD_initD) .none kV dc pm an (.ref cda) ct cc) ["self", "row"] (EvX.spEw C "row") := by
  refine fn_err lk rfl hcd sc_NotCutD_initD G (fun env => ⟨_, rfl⟩) (fun _ => rfl) (fun _ => rfl) rfl rfl (fun vs H Q E h => ?_) (fun A outer s H vs Q E hr h => ?_)
  · obtain ⟨a, v, rfl, _⟩ := h
    rfl
  · obtain ⟨a, v, rfl, ok, ha, k⟩ := h
    refine ⟨_, _, a, _, rfl, ha, (pe_joined (PJ.cons pe_str (PJ.cons (pe_fmtR (pv 1)) (PJ.cons pe_str PJ.nil)))), (pss_one (ps_ost (pv 0) (pv 1))), ?_⟩
    have fin : ∀ H1, H1 = H → (tOst K "row" (tVar 0) (tVar 1)) { nx := fun _ H' => Q .non H', rt := Q } (L2.start ["self", "row"] [.ref a, v]) H1 := fun H1 e => by
      subst e
      refine ⟨v, rfl, .ref a, rfl, a, C, rfl, G.oex, no0, .inl ⟨ha, fun d hd da => k d _ hd da upd_same ?_ fun b o ba e => ?_⟩⟩
      · rw [upd_ne da]; exact upd_same
      · rw [upd_ne ba, upd_ne (ne_of_none e hd)]; exact e
    have c9 : Str.empty.length = 0 := rfl
    have c0 : ("row " : Str).length = 4 := by decide +kernel
    have c1 : (" can't be cut, or was named before" : Str).length = 34 := by decide +kernel
    rcases ok with ⟨y, rfl, hy⟩ | ⟨i, rfl, hi⟩
    · have hr := hy.repr
      have hs := hy.sz
      exact ⟨_, rfl, sz_ok (by simp only [app_len, c9, c0, c1]; omega), ⟨_, rfl, .inl ⟨y, rfl, sz_ok (by omega), _, rfl, sz_ok (by simp only [app_len, c9, c0, c1]; omega), ⟨_, rfl, sz_ok (by simp only [app_len, c9, c0, c1]; omega), ⟨ha, fin _ rfl⟩⟩⟩⟩⟩
    · have hs := EvX.intw_len hi
      exact ⟨_, rfl, sz_ok (by simp only [app_len, c9, c0, c1]; omega), ⟨_, rfl, .inr ⟨i, rfl, EvX.intw_log hi, _, rfl, sz_ok (by simp only [app_len, c9, c0, c1]; omega), ⟨_, rfl, sz_ok (by simp only [app_len, c9, c0, c1]; omega), ⟨ha, fin _ rfl⟩⟩⟩⟩⟩
abbrev s_AmidD_initD : Stmt := inClass (top 7) 0
theorem sc_AmidD_initD : FnScopeF ["self", "half"] ["self", "half"] (defScope s_AmidD_initD) := ⟨rfl, rfl, rfl, by decide +kernel, rfl, by decide +kernel, by decide +kernel, by decide +kernel, rfl, rfl⟩
theorem ok_er_Amid {f cc cda C : Addr} {oc kV dc pm ct : Value} {od an : Option Addr} {sl : Array (Option Value)} (lk : K.lookup f = some ⟨oc, od, .func (PySem.W.ksFn "__init__" "Amid.__init__" (defArgs s_AmidD_initD) (defBody s_AmidD_initD) (defScope s_AmidD_initD) .none kV dc pm an (.ref cda) ct cc), sl⟩) (hcd : PySem.W.codeIn K (.ref cda) "Amid.__init__" = true) (G : ErC K P C f cc cda) (no0 : PySem.W.findIn K (.ref C) "half" = some none) :
    FnOk P w K mg base (L2.CX P w) 2 f (PySem.W.ksFn "__init__" "Amid.__init__" (defArgs s_AmidD_initD) (defBody s_AmidD_initD) (defScope s_AmidD_initD) .none kV dc pm an (.ref cda) ct cc) ["self", "half"] (EvX.spEw C "half") := by
  refine fn_err lk rfl hcd sc_AmidD_initD G (fun env => ⟨_, rfl⟩) (fun _ => rfl) (fun _ => rfl) rfl rfl (fun vs H Q E h => ?_) (fun A outer s H vs Q E hr h => ?_)
  · obtain ⟨a, v, rfl, _⟩ := h
    rfl
  · obtain ⟨a, v, rfl, ok, ha, k⟩ := h
    refine ⟨_, _, a, _, rfl, ha, (pe_joined (PJ.cons pe_str (PJ.cons (pe_fmtR (pv 1)) PJ.nil))), (pss_one (ps_ost (pv 0) (pv 1))), ?_⟩
    have fin : ∀ H1, H1 = H → (tOst K "half" (tVar 0) (tVar 1)) { nx := fun _ H' => Q .non H', rt := Q } (L2.start ["self", "half"] [.ref a, v]) H1 := fun H1 e => by
      subst e
      refine ⟨v, rfl, .ref a, rfl, a, C, rfl, G.oex, no0, .inl ⟨ha, fun d hd da => k d _ hd da upd_same ?_ fun b o ba e => ?_⟩⟩
      · rw [upd_ne da]; exact upd_same
      · rw [upd_ne ba, upd_ne (ne_of_none e hd)]; exact e
    have c9 : Str.empty.length = 0 := rfl
    have c0 : ("the mark of the line is " : Str).length = 24 := by decide +kernel
    rcases ok with ⟨y, rfl, hy⟩ | ⟨i, rfl, hi⟩
    · have hr := hy.repr
      have hs := hy.sz
      exact ⟨_, rfl, sz_ok (by simp only [app_len, c9, c0]; omega), ⟨_, rfl, .inl ⟨y, rfl, sz_ok (by omega), _, rfl, sz_ok (by simp only [app_len, c9, c0]; omega), ⟨ha, fin _ rfl⟩⟩⟩⟩
    · have hs := EvX.intw_len hi
      exact ⟨_, rfl, sz_ok (by simp only [app_len, c9, c0]; omega), ⟨_, rfl, .inr ⟨i, rfl, EvX.intw_log hi, _, rfl, sz_ok (by simp only [app_len, c9, c0]; omega), ⟨ha, fin _ rfl⟩⟩⟩⟩
abbrev s_ClosedD_initD : Stmt := inClass (top 8) 0
theorem sc_ClosedD_initD : FnScopeF ["self", "number"] ["self", "number"] (defScope s_ClosedD_initD) := ⟨rfl, rfl, rfl, by decide +kernel, rfl, by decide +kernel, by decide +kernel, by decide +kernel, rfl, rfl⟩
theorem ok_er_Closed {f cc cda C : Addr} {oc kV dc pm ct : Value} {od an : Option Addr} {sl : Array (Option Value)} (lk : K.lookup f = some ⟨oc, od, .func (PySem.W.ksFn "__init__" "Closed.__init__" (defArgs s_ClosedD_initD) (defBody s_ClosedD_initD) (defScope s_ClosedD_initD) .none kV dc pm an (.ref cda) ct cc), sl⟩) (hcd : PySem.W.codeIn K (.ref cda) "Closed.__init__" = true) (G : ErC K P C f cc cda) (no0 : PySem.W.findIn K (.ref C) "number" = some none) :
    FnOk P w K mg base (L2.CX P w) 2 f (PySem.W.ksFn "__init__" "Closed.__init__" (defArgs s_ClosedD_initD) (defBody s_ClosedD_initD) (defScope s_ClosedD_initD) .none kV dc pm an (.ref cda) ct cc) ["self", "number"] (EvX.spEw C "number") := by
  refine fn_err lk rfl hcd sc_ClosedD_initD G (fun env => ⟨_, rfl⟩) (fun _ => rfl) (fun _ => rfl) rfl rfl (fun vs H Q E h => ?_) (fun A outer s H vs Q E hr h => ?_)
  · obtain ⟨a, v, rfl, _⟩ := h
    rfl
  · obtain ⟨a, v, rfl, ok, ha, k⟩ := h
    refine ⟨_, _, a, _, rfl, ha, (pe_joined (PJ.cons pe_str (PJ.cons (pe_fmtR (pv 1)) (PJ.cons pe_str PJ.nil)))), (pss_one (ps_ost (pv 0) (pv 1))), ?_⟩
    have fin : ∀ H1, H1 = H → (tOst K "number" (tVar 0) (tVar 1)) { nx := fun _ H' => Q .non H', rt := Q } (L2.start ["self", "number"] [.ref a, v]) H1 := fun H1 e => by
      subst e
      refine ⟨v, rfl, .ref a, rfl, a, C, rfl, G.oex, no0, .inl ⟨ha, fun d hd da => k d _ hd da upd_same ?_ fun b o ba e => ?_⟩⟩
      · rw [upd_ne da]; exact upd_same
      · rw [upd_ne ba, upd_ne (ne_of_none e hd)]; exact e
    have c9 : Str.empty.length = 0 := rfl
    have c0 : ("line " : Str).length = 5 := by decide +kernel
    have c1 : (" is closed" : Str).length = 10 := by decide +kernel
    rcases ok with ⟨y, rfl, hy⟩ | ⟨i, rfl, hi⟩
    · have hr := hy.repr
      have hs := hy.sz
      exact ⟨_, rfl, sz_ok (by simp only [app_len, c9, c0, c1]; omega), ⟨_, rfl, .inl ⟨y, rfl, sz_ok (by omega), _, rfl, sz_ok (by simp only [app_len, c9, c0, c1]; omega), ⟨_, rfl, sz_ok (by simp only [app_len, c9, c0, c1]; omega), ⟨ha, fin _ rfl⟩⟩⟩⟩⟩
    · have hs := EvX.intw_len hi
      exact ⟨_, rfl, sz_ok (by simp only [app_len, c9, c0, c1]; omega), ⟨_, rfl, .inr ⟨i, rfl, EvX.intw_log hi, _, rfl, sz_ok (by simp only [app_len, c9, c0, c1]; omega), ⟨_, rfl, sz_ok (by simp only [app_len, c9, c0, c1]; omega), ⟨ha, fin _ rfl⟩⟩⟩⟩⟩
abbrev s_StarvedD_initD : Stmt := inClass (top 9) 0
theorem sc_StarvedD_initD : FnScopeF ["self", "number"] ["self", "number"] (defScope s_StarvedD_initD) := ⟨rfl, rfl, rfl, by decide +kernel, rfl, by decide +kernel, by decide +kernel, by decide +kernel, rfl, rfl⟩
theorem ok_er_Starved {f cc cda C : Addr} {oc kV dc pm ct : Value} {od an : Option Addr} {sl : Array (Option Value)} (lk : K.lookup f = some ⟨oc, od, .func (PySem.W.ksFn "__init__" "Starved.__init__" (defArgs s_StarvedD_initD) (defBody s_StarvedD_initD) (defScope s_StarvedD_initD) .none kV dc pm an (.ref cda) ct cc), sl⟩) (hcd : PySem.W.codeIn K (.ref cda) "Starved.__init__" = true) (G : ErC K P C f cc cda) (no0 : PySem.W.findIn K (.ref C) "number" = some none) :
    FnOk P w K mg base (L2.CX P w) 2 f (PySem.W.ksFn "__init__" "Starved.__init__" (defArgs s_StarvedD_initD) (defBody s_StarvedD_initD) (defScope s_StarvedD_initD) .none kV dc pm an (.ref cda) ct cc) ["self", "number"] (EvX.spEw C "number") := by
  refine fn_err lk rfl hcd sc_StarvedD_initD G (fun env => ⟨_, rfl⟩) (fun _ => rfl) (fun _ => rfl) rfl rfl (fun vs H Q E h => ?_) (fun A outer s H vs Q E hr h => ?_)
  · obtain ⟨a, v, rfl, _⟩ := h
    rfl
  · obtain ⟨a, v, rfl, ok, ha, k⟩ := h
    refine ⟨_, _, a, _, rfl, ha, (pe_joined (PJ.cons pe_str (PJ.cons (pe_fmtR (pv 1)) PJ.nil))), (pss_one (ps_ost (pv 0) (pv 1))), ?_⟩
    have fin : ∀ H1, H1 = H → (tOst K "number" (tVar 0) (tVar 1)) { nx := fun _ H' => Q .non H', rt := Q } (L2.start ["self", "number"] [.ref a, v]) H1 := fun H1 e => by
      subst e
      refine ⟨v, rfl, .ref a, rfl, a, C, rfl, G.oex, no0, .inl ⟨ha, fun d hd da => k d _ hd da upd_same ?_ fun b o ba e => ?_⟩⟩
      · rw [upd_ne da]; exact upd_same
      · rw [upd_ne ba, upd_ne (ne_of_none e hd)]; exact e
    have c9 : Str.empty.length = 0 := rfl
    have c0 : ("nothing is owed on line " : Str).length = 24 := by decide +kernel
    rcases ok with ⟨y, rfl, hy⟩ | ⟨i, rfl, hi⟩
    · have hr := hy.repr
      have hs := hy.sz
      exact ⟨_, rfl, sz_ok (by simp only [app_len, c9, c0]; omega), ⟨_, rfl, .inl ⟨y, rfl, sz_ok (by omega), _, rfl, sz_ok (by simp only [app_len, c9, c0]; omega), ⟨ha, fin _ rfl⟩⟩⟩⟩
    · have hs := EvX.intw_len hi
      exact ⟨_, rfl, sz_ok (by simp only [app_len, c9, c0]; omega), ⟨_, rfl, .inr ⟨i, rfl, EvX.intw_log hi, _, rfl, sz_ok (by simp only [app_len, c9, c0]; omega), ⟨ha, fin _ rfl⟩⟩⟩⟩
abbrev s_FailedD_initD : Stmt := inClass (top 10) 0
theorem sc_FailedD_initD : FnScopeF ["self", "row"] ["self", "row"] (defScope s_FailedD_initD) := ⟨rfl, rfl, rfl, by decide +kernel, rfl, by decide +kernel, by decide +kernel, by decide +kernel, rfl, rfl⟩
theorem ok_er_Failed {f cc cda C : Addr} {oc kV dc pm ct : Value} {od an : Option Addr} {sl : Array (Option Value)} (lk : K.lookup f = some ⟨oc, od, .func (PySem.W.ksFn "__init__" "Failed.__init__" (defArgs s_FailedD_initD) (defBody s_FailedD_initD) (defScope s_FailedD_initD) .none kV dc pm an (.ref cda) ct cc), sl⟩) (hcd : PySem.W.codeIn K (.ref cda) "Failed.__init__" = true) (G : ErC K P C f cc cda) (no0 : PySem.W.findIn K (.ref C) "row" = some none) :
    FnOk P w K mg base (L2.CX P w) 2 f (PySem.W.ksFn "__init__" "Failed.__init__" (defArgs s_FailedD_initD) (defBody s_FailedD_initD) (defScope s_FailedD_initD) .none kV dc pm an (.ref cda) ct cc) ["self", "row"] (EvX.spEw C "row") := by
  refine fn_err lk rfl hcd sc_FailedD_initD G (fun env => ⟨_, rfl⟩) (fun _ => rfl) (fun _ => rfl) rfl rfl (fun vs H Q E h => ?_) (fun A outer s H vs Q E hr h => ?_)
  · obtain ⟨a, v, rfl, _⟩ := h
    rfl
  · obtain ⟨a, v, rfl, ok, ha, k⟩ := h
    refine ⟨_, _, a, _, rfl, ha, (pe_joined (PJ.cons pe_str (PJ.cons (pe_fmtR (pv 1)) PJ.nil))), (pss_one (ps_ost (pv 0) (pv 1))), ?_⟩
    have fin : ∀ H1, H1 = H → (tOst K "row" (tVar 0) (tVar 1)) { nx := fun _ H' => Q .non H', rt := Q } (L2.start ["self", "row"] [.ref a, v]) H1 := fun H1 e => by
      subst e
      refine ⟨v, rfl, .ref a, rfl, a, C, rfl, G.oex, no0, .inl ⟨ha, fun d hd da => k d _ hd da upd_same ?_ fun b o ba e => ?_⟩⟩
      · rw [upd_ne da]; exact upd_same
      · rw [upd_ne ba, upd_ne (ne_of_none e hd)]; exact e
    have c9 : Str.empty.length = 0 := rfl
    have c0 : ("failed at row " : Str).length = 14 := by decide +kernel
    rcases ok with ⟨y, rfl, hy⟩ | ⟨i, rfl, hi⟩
    · have hr := hy.repr
      have hs := hy.sz
      exact ⟨_, rfl, sz_ok (by simp only [app_len, c9, c0]; omega), ⟨_, rfl, .inl ⟨y, rfl, sz_ok (by omega), _, rfl, sz_ok (by simp only [app_len, c9, c0]; omega), ⟨ha, fin _ rfl⟩⟩⟩⟩
    · have hs := EvX.intw_len hi
      exact ⟨_, rfl, sz_ok (by simp only [app_len, c9, c0]; omega), ⟨_, rfl, .inr ⟨i, rfl, EvX.intw_log hi, _, rfl, sz_ok (by simp only [app_len, c9, c0]; omega), ⟨ha, fin _ rfl⟩⟩⟩⟩
abbrev s_CutD_initD : Stmt := inClass (top 11) 0
theorem sc_CutD_initD : FnScopeF ["self", "row"] ["self", "row"] (defScope s_CutD_initD) := ⟨rfl, rfl, rfl, by decide +kernel, rfl, by decide +kernel, by decide +kernel, by decide +kernel, rfl, rfl⟩
theorem ok_er_Cut {f cc cda C : Addr} {oc kV dc pm ct : Value} {od an : Option Addr} {sl : Array (Option Value)} (lk : K.lookup f = some ⟨oc, od, .func (PySem.W.ksFn "__init__" "Cut.__init__" (defArgs s_CutD_initD) (defBody s_CutD_initD) (defScope s_CutD_initD) .none kV dc pm an (.ref cda) ct cc), sl⟩) (hcd : PySem.W.codeIn K (.ref cda) "Cut.__init__" = true) (G : ErC K P C f cc cda) (no0 : PySem.W.findIn K (.ref C) "row" = some none) :
    FnOk P w K mg base (L2.CX P w) 2 f (PySem.W.ksFn "__init__" "Cut.__init__" (defArgs s_CutD_initD) (defBody s_CutD_initD) (defScope s_CutD_initD) .none kV dc pm an (.ref cda) ct cc) ["self", "row"] (EvX.spEw C "row") := by
  refine fn_err lk rfl hcd sc_CutD_initD G (fun env => ⟨_, rfl⟩) (fun _ => rfl) (fun _ => rfl) rfl rfl (fun vs H Q E h => ?_) (fun A outer s H vs Q E hr h => ?_)
  · obtain ⟨a, v, rfl, _⟩ := h
    rfl
  · obtain ⟨a, v, rfl, ok, ha, k⟩ := h
    refine ⟨_, _, a, _, rfl, ha, (pe_joined (PJ.cons pe_str (PJ.cons (pe_fmtR (pv 1)) PJ.nil))), (pss_one (ps_ost (pv 0) (pv 1))), ?_⟩
    have fin : ∀ H1, H1 = H → (tOst K "row" (tVar 0) (tVar 1)) { nx := fun _ H' => Q .non H', rt := Q } (L2.start ["self", "row"] [.ref a, v]) H1 := fun H1 e => by
      subst e
      refine ⟨v, rfl, .ref a, rfl, a, C, rfl, G.oex, no0, .inl ⟨ha, fun d hd da => k d _ hd da upd_same ?_ fun b o ba e => ?_⟩⟩
      · rw [upd_ne da]; exact upd_same
      · rw [upd_ne ba, upd_ne (ne_of_none e hd)]; exact e
    have c9 : Str.empty.length = 0 := rfl
    have c0 : ("cut at row " : Str).length = 11 := by decide +kernel
    rcases ok with ⟨y, rfl, hy⟩ | ⟨i, rfl, hi⟩
    · have hr := hy.repr
      have hs := hy.sz
      exact ⟨_, rfl, sz_ok (by simp only [app_len, c9, c0]; omega), ⟨_, rfl, .inl ⟨y, rfl, sz_ok (by omega), _, rfl, sz_ok (by simp only [app_len, c9, c0]; omega), ⟨ha, fin _ rfl⟩⟩⟩⟩
    · have hs := EvX.intw_len hi
      exact ⟨_, rfl, sz_ok (by simp only [app_len, c9, c0]; omega), ⟨_, rfl, .inr ⟨i, rfl, EvX.intw_log hi, _, rfl, sz_ok (by simp only [app_len, c9, c0]; omega), ⟨ha, fin _ rfl⟩⟩⟩⟩
abbrev s_BadDoorD_initD : Stmt := inClass (top 12) 0
theorem sc_BadDoorD_initD : FnScopeF ["self", "word"] ["self", "word"] (defScope s_BadDoorD_initD) := ⟨rfl, rfl, rfl, by decide +kernel, rfl, by decide +kernel, by decide +kernel, by decide +kernel, rfl, rfl⟩
theorem ok_er_BadDoor {f cc cda C : Addr} {oc kV dc pm ct : Value} {od an : Option Addr} {sl : Array (Option Value)} (lk : K.lookup f = some ⟨oc, od, .func (PySem.W.ksFn "__init__" "BadDoor.__init__" (defArgs s_BadDoorD_initD) (defBody s_BadDoorD_initD) (defScope s_BadDoorD_initD) .none kV dc pm an (.ref cda) ct cc), sl⟩) (hcd : PySem.W.codeIn K (.ref cda) "BadDoor.__init__" = true) (G : ErC K P C f cc cda) (no0 : PySem.W.findIn K (.ref C) "word" = some none) :
    FnOk P w K mg base (L2.CX P w) 2 f (PySem.W.ksFn "__init__" "BadDoor.__init__" (defArgs s_BadDoorD_initD) (defBody s_BadDoorD_initD) (defScope s_BadDoorD_initD) .none kV dc pm an (.ref cda) ct cc) ["self", "word"] (EvX.spEw C "word") := by
  refine fn_err lk rfl hcd sc_BadDoorD_initD G (fun env => ⟨_, rfl⟩) (fun _ => rfl) (fun _ => rfl) rfl rfl (fun vs H Q E h => ?_) (fun A outer s H vs Q E hr h => ?_)
  · obtain ⟨a, v, rfl, _⟩ := h
    rfl
  · obtain ⟨a, v, rfl, ok, ha, k⟩ := h
    refine ⟨_, _, a, _, rfl, ha, (pe_joined (PJ.cons (pe_fmtR (pv 1)) (PJ.cons pe_str PJ.nil))), (pss_one (ps_ost (pv 0) (pv 1))), ?_⟩
    have fin : ∀ H1, H1 = H → (tOst K "word" (tVar 0) (tVar 1)) { nx := fun _ H' => Q .non H', rt := Q } (L2.start ["self", "word"] [.ref a, v]) H1 := fun H1 e => by
      subst e
      refine ⟨v, rfl, .ref a, rfl, a, C, rfl, G.oex, no0, .inl ⟨ha, fun d hd da => k d _ hd da upd_same ?_ fun b o ba e => ?_⟩⟩
      · rw [upd_ne da]; exact upd_same
      · rw [upd_ne ba, upd_ne (ne_of_none e hd)]; exact e
    have c9 : Str.empty.length = 0 := rfl
    have c0 : (" is no word of a door" : Str).length = 21 := by decide +kernel
    rcases ok with ⟨y, rfl, hy⟩ | ⟨i, rfl, hi⟩
    · have hr := hy.repr
      have hs := hy.sz
      exact ⟨_, rfl, .inl ⟨y, rfl, sz_ok (by omega), _, rfl, sz_ok (by simp only [app_len, c9, c0]; omega), ⟨_, rfl, sz_ok (by simp only [app_len, c9, c0]; omega), ⟨ha, fin _ rfl⟩⟩⟩⟩
    · have hs := EvX.intw_len hi
      exact ⟨_, rfl, .inr ⟨i, rfl, EvX.intw_log hi, _, rfl, sz_ok (by simp only [app_len, c9, c0]; omega), ⟨_, rfl, sz_ok (by simp only [app_len, c9, c0]; omega), ⟨ha, fin _ rfl⟩⟩⟩⟩
abbrev s_BadNameD_initD : Stmt := inClass (top 13) 0
theorem sc_BadNameD_initD : FnScopeF ["self", "name"] ["self", "name"] (defScope s_BadNameD_initD) := ⟨rfl, rfl, rfl, by decide +kernel, rfl, by decide +kernel, by decide +kernel, by decide +kernel, rfl, rfl⟩
theorem ok_er_BadName {f cc cda C : Addr} {oc kV dc pm ct : Value} {od an : Option Addr} {sl : Array (Option Value)} (lk : K.lookup f = some ⟨oc, od, .func (PySem.W.ksFn "__init__" "BadName.__init__" (defArgs s_BadNameD_initD) (defBody s_BadNameD_initD) (defScope s_BadNameD_initD) .none kV dc pm an (.ref cda) ct cc), sl⟩) (hcd : PySem.W.codeIn K (.ref cda) "BadName.__init__" = true) (G : ErC K P C f cc cda) (no0 : PySem.W.findIn K (.ref C) "name" = some none) :
    FnOk P w K mg base (L2.CX P w) 2 f (PySem.W.ksFn "__init__" "BadName.__init__" (defArgs s_BadNameD_initD) (defBody s_BadNameD_initD) (defScope s_BadNameD_initD) .none kV dc pm an (.ref cda) ct cc) ["self", "name"] (EvX.spEw C "name") := by
  refine fn_err lk rfl hcd sc_BadNameD_initD G (fun env => ⟨_, rfl⟩) (fun _ => rfl) (fun _ => rfl) rfl rfl (fun vs H Q E h => ?_) (fun A outer s H vs Q E hr h => ?_)
  · obtain ⟨a, v, rfl, _⟩ := h
    rfl
  · obtain ⟨a, v, rfl, ok, ha, k⟩ := h
    refine ⟨_, _, a, _, rfl, ha, (pe_joined (PJ.cons (pe_fmtR (pv 1)) (PJ.cons pe_str PJ.nil))), (pss_one (ps_ost (pv 0) (pv 1))), ?_⟩
    have fin : ∀ H1, H1 = H → (tOst K "name" (tVar 0) (tVar 1)) { nx := fun _ H' => Q .non H', rt := Q } (L2.start ["self", "name"] [.ref a, v]) H1 := fun H1 e => by
      subst e
      refine ⟨v, rfl, .ref a, rfl, a, C, rfl, G.oex, no0, .inl ⟨ha, fun d hd da => k d _ hd da upd_same ?_ fun b o ba e => ?_⟩⟩
      · rw [upd_ne da]; exact upd_same
      · rw [upd_ne ba, upd_ne (ne_of_none e hd)]; exact e
    have c9 : Str.empty.length = 0 := rfl
    have c0 : (" is no name of a borrower" : Str).length = 25 := by decide +kernel
    rcases ok with ⟨y, rfl, hy⟩ | ⟨i, rfl, hi⟩
    · have hr := hy.repr
      have hs := hy.sz
      exact ⟨_, rfl, .inl ⟨y, rfl, sz_ok (by omega), _, rfl, sz_ok (by simp only [app_len, c9, c0]; omega), ⟨_, rfl, sz_ok (by simp only [app_len, c9, c0]; omega), ⟨ha, fin _ rfl⟩⟩⟩⟩
    · have hs := EvX.intw_len hi
      exact ⟨_, rfl, .inr ⟨i, rfl, EvX.intw_log hi, _, rfl, sz_ok (by simp only [app_len, c9, c0]; omega), ⟨_, rfl, sz_ok (by simp only [app_len, c9, c0]; omega), ⟨ha, fin _ rfl⟩⟩⟩⟩
abbrev s_NotLentD_initD : Stmt := inClass (top 14) 0
theorem sc_NotLentD_initD : FnScopeF ["self", "number"] ["self", "number"] (defScope s_NotLentD_initD) := ⟨rfl, rfl, rfl, by decide +kernel, rfl, by decide +kernel, by decide +kernel, by decide +kernel, rfl, rfl⟩
theorem ok_er_NotLent {f cc cda C : Addr} {oc kV dc pm ct : Value} {od an : Option Addr} {sl : Array (Option Value)} (lk : K.lookup f = some ⟨oc, od, .func (PySem.W.ksFn "__init__" "NotLent.__init__" (defArgs s_NotLentD_initD) (defBody s_NotLentD_initD) (defScope s_NotLentD_initD) .none kV dc pm an (.ref cda) ct cc), sl⟩) (hcd : PySem.W.codeIn K (.ref cda) "NotLent.__init__" = true) (G : ErC K P C f cc cda) (no0 : PySem.W.findIn K (.ref C) "number" = some none) :
    FnOk P w K mg base (L2.CX P w) 2 f (PySem.W.ksFn "__init__" "NotLent.__init__" (defArgs s_NotLentD_initD) (defBody s_NotLentD_initD) (defScope s_NotLentD_initD) .none kV dc pm an (.ref cda) ct cc) ["self", "number"] (EvX.spEw C "number") := by
  refine fn_err lk rfl hcd sc_NotLentD_initD G (fun env => ⟨_, rfl⟩) (fun _ => rfl) (fun _ => rfl) rfl rfl (fun vs H Q E h => ?_) (fun A outer s H vs Q E hr h => ?_)
  · obtain ⟨a, v, rfl, _⟩ := h
    rfl
  · obtain ⟨a, v, rfl, ok, ha, k⟩ := h
    refine ⟨_, _, a, _, rfl, ha, (pe_joined (PJ.cons pe_str (PJ.cons (pe_fmtR (pv 1)) (PJ.cons pe_str PJ.nil)))), (pss_one (ps_ost (pv 0) (pv 1))), ?_⟩
    have fin : ∀ H1, H1 = H → (tOst K "number" (tVar 0) (tVar 1)) { nx := fun _ H' => Q .non H', rt := Q } (L2.start ["self", "number"] [.ref a, v]) H1 := fun H1 e => by
      subst e
      refine ⟨v, rfl, .ref a, rfl, a, C, rfl, G.oex, no0, .inl ⟨ha, fun d hd da => k d _ hd da upd_same ?_ fun b o ba e => ?_⟩⟩
      · rw [upd_ne da]; exact upd_same
      · rw [upd_ne ba, upd_ne (ne_of_none e hd)]; exact e
    have c9 : Str.empty.length = 0 := rfl
    have c0 : ("line " : Str).length = 5 := by decide +kernel
    have c1 : (" is not lent" : Str).length = 12 := by decide +kernel
    rcases ok with ⟨y, rfl, hy⟩ | ⟨i, rfl, hi⟩
    · have hr := hy.repr
      have hs := hy.sz
      exact ⟨_, rfl, sz_ok (by simp only [app_len, c9, c0, c1]; omega), ⟨_, rfl, .inl ⟨y, rfl, sz_ok (by omega), _, rfl, sz_ok (by simp only [app_len, c9, c0, c1]; omega), ⟨_, rfl, sz_ok (by simp only [app_len, c9, c0, c1]; omega), ⟨ha, fin _ rfl⟩⟩⟩⟩⟩
    · have hs := EvX.intw_len hi
      exact ⟨_, rfl, sz_ok (by simp only [app_len, c9, c0, c1]; omega), ⟨_, rfl, .inr ⟨i, rfl, EvX.intw_log hi, _, rfl, sz_ok (by simp only [app_len, c9, c0, c1]; omega), ⟨_, rfl, sz_ok (by simp only [app_len, c9, c0, c1]; omega), ⟨ha, fin _ rfl⟩⟩⟩⟩⟩
abbrev s_BadMoveD_initD : Stmt := inClass (top 15) 0
theorem sc_BadMoveD_initD : FnScopeF ["self", "at"] ["self", "at"] (defScope s_BadMoveD_initD) := ⟨rfl, rfl, rfl, by decide +kernel, rfl, by decide +kernel, by decide +kernel, by decide +kernel, rfl, rfl⟩
theorem ok_er_BadMove {f cc cda C : Addr} {oc kV dc pm ct : Value} {od an : Option Addr} {sl : Array (Option Value)} (lk : K.lookup f = some ⟨oc, od, .func (PySem.W.ksFn "__init__" "BadMove.__init__" (defArgs s_BadMoveD_initD) (defBody s_BadMoveD_initD) (defScope s_BadMoveD_initD) .none kV dc pm an (.ref cda) ct cc), sl⟩) (hcd : PySem.W.codeIn K (.ref cda) "BadMove.__init__" = true) (G : ErC K P C f cc cda) (no0 : PySem.W.findIn K (.ref C) "at" = some none) :
    FnOk P w K mg base (L2.CX P w) 2 f (PySem.W.ksFn "__init__" "BadMove.__init__" (defArgs s_BadMoveD_initD) (defBody s_BadMoveD_initD) (defScope s_BadMoveD_initD) .none kV dc pm an (.ref cda) ct cc) ["self", "at"] (EvX.spEw C "at") := by
  refine fn_err lk rfl hcd sc_BadMoveD_initD G (fun env => ⟨_, rfl⟩) (fun _ => rfl) (fun _ => rfl) rfl rfl (fun vs H Q E h => ?_) (fun A outer s H vs Q E hr h => ?_)
  · obtain ⟨a, v, rfl, _⟩ := h
    rfl
  · obtain ⟨a, v, rfl, ok, ha, k⟩ := h
    refine ⟨_, _, a, _, rfl, ha, (pe_joined (PJ.cons pe_str (PJ.cons (pe_fmtR (pv 1)) (PJ.cons pe_str PJ.nil)))), (pss_one (ps_ost (pv 0) (pv 1))), ?_⟩
    have fin : ∀ H1, H1 = H → (tOst K "at" (tVar 0) (tVar 1)) { nx := fun _ H' => Q .non H', rt := Q } (L2.start ["self", "at"] [.ref a, v]) H1 := fun H1 e => by
      subst e
      refine ⟨v, rfl, .ref a, rfl, a, C, rfl, G.oex, no0, .inl ⟨ha, fun d hd da => k d _ hd da upd_same ?_ fun b o ba e => ?_⟩⟩
      · rw [upd_ne da]; exact upd_same
      · rw [upd_ne ba, upd_ne (ne_of_none e hd)]; exact e
    have c9 : Str.empty.length = 0 := rfl
    have c0 : ("step " : Str).length = 5 := by decide +kernel
    have c1 : (" is not possible" : Str).length = 16 := by decide +kernel
    rcases ok with ⟨y, rfl, hy⟩ | ⟨i, rfl, hi⟩
    · have hr := hy.repr
      have hs := hy.sz
      exact ⟨_, rfl, sz_ok (by simp only [app_len, c9, c0, c1]; omega), ⟨_, rfl, .inl ⟨y, rfl, sz_ok (by omega), _, rfl, sz_ok (by simp only [app_len, c9, c0, c1]; omega), ⟨_, rfl, sz_ok (by simp only [app_len, c9, c0, c1]; omega), ⟨ha, fin _ rfl⟩⟩⟩⟩⟩
    · have hs := EvX.intw_len hi
      exact ⟨_, rfl, sz_ok (by simp only [app_len, c9, c0, c1]; omega), ⟨_, rfl, .inr ⟨i, rfl, EvX.intw_log hi, _, rfl, sz_ok (by simp only [app_len, c9, c0, c1]; omega), ⟨_, rfl, sz_ok (by simp only [app_len, c9, c0, c1]; omega), ⟨ha, fin _ rfl⟩⟩⟩⟩⟩
abbrev s_FaultyD_initD : Stmt := inClass (top 16) 0
theorem sc_FaultyD_initD : FnScopeF ["self", "kind", "lengths", "moves"] ["self", "kind", "lengths", "moves"] (defScope s_FaultyD_initD) := ⟨rfl, rfl, rfl, by decide +kernel, rfl, by decide +kernel, by decide +kernel, by decide +kernel, rfl, rfl⟩
theorem ok_er_Faulty {f cc cda C : Addr} {oc kV dc pm ct : Value} {od an : Option Addr} {sl : Array (Option Value)} (lk : K.lookup f = some ⟨oc, od, .func (PySem.W.ksFn "__init__" "Faulty.__init__" (defArgs s_FaultyD_initD) (defBody s_FaultyD_initD) (defScope s_FaultyD_initD) .none kV dc pm an (.ref cda) ct cc), sl⟩) (hcd : PySem.W.codeIn K (.ref cda) "Faulty.__init__" = true) (G : ErC K P C f cc cda) (no0 : PySem.W.findIn K (.ref C) "kind" = some none) (no1 : PySem.W.findIn K (.ref C) "lengths" = some none) (no2 : PySem.W.findIn K (.ref C) "moves" = some none) :
    FnOk P w K mg base (L2.CX P w) 2 f (PySem.W.ksFn "__init__" "Faulty.__init__" (defArgs s_FaultyD_initD) (defBody s_FaultyD_initD) (defScope s_FaultyD_initD) .none kV dc pm an (.ref cda) ct cc) ["self", "kind", "lengths", "moves"] (EvX.spE3 C "kind" "lengths" "moves") := by
  refine fn_err lk rfl hcd sc_FaultyD_initD G (fun env => ⟨_, rfl⟩) (fun _ => rfl) (fun _ => rfl) rfl rfl (fun vs H Q E h => ?_) (fun A outer s H vs Q E hr h => ?_)
  · obtain ⟨a, v, v2, v3, rfl, _⟩ := h
    rfl
  · obtain ⟨a, v, v2, v3, rfl, ok, ha, k⟩ := h
    refine ⟨_, _, a, _, rfl, ha, (pe_joined (PJ.cons pe_str (PJ.cons (pe_fmtR (pv 1)) PJ.nil))), (pss_cons (ps_ost (pv 0) (pv 1)) (pss_cons (ps_ost (pv 0) (pv 2)) (pss_one (ps_ost (pv 0) (pv 3))))), ?_⟩
    have fin : ∀ H1, H1 = H → (tSeq (tOst K "kind" (tVar 0) (tVar 1)) (tSeq (tOst K "lengths" (tVar 0) (tVar 2)) (tOst K "moves" (tVar 0) (tVar 3)))) { nx := fun _ H' => Q .non H', rt := Q } (L2.start ["self", "kind", "lengths", "moves"] [.ref a, v, v2, v3]) H1 := fun H1 e => by
      subst e
      refine ⟨v, rfl, .ref a, rfl, a, C, rfl, G.oex, no0, .inl ⟨ha, fun d hd da => ?_⟩⟩
      have e1 : upd (upd H1 d (exd d [("kind", v)])) a (exo a C (some d)) a = some (exo a C (some d)) := upd_same
      have e2 : upd (upd H1 d (exd d [("kind", v)])) a (exo a C (some d)) d = some (exd d [("kind", v)]) := by rw [upd_ne da]; exact upd_same
      refine ⟨v2, rfl, .ref a, rfl, a, C, rfl, G.oex, no1, .inr ⟨d, _, e1, e2, by show 1 ≤ 900; decide, ?_⟩⟩
      refine ⟨v3, rfl, .ref a, rfl, a, C, rfl, G.oex, no2, .inr ⟨d, _, (upd_ne da.symm).trans e1, upd_same, by show 2 ≤ 900; decide, ?_⟩⟩
      refine k d _ hd da ((upd_ne da.symm).trans ((upd_ne da.symm).trans e1)) upd_same fun b o ba e => ?_
      have bd := ne_of_none e hd
      rw [upd_ne bd, upd_ne bd, upd_ne ba, upd_ne bd]; exact e
    have c9 : Str.empty.length = 0 := rfl
    have c0 : ("a run has the fault " : Str).length = 20 := by decide +kernel
    rcases ok with ⟨y, rfl, hy⟩ | ⟨i, rfl, hi⟩
    · have hr := hy.repr
      have hs := hy.sz
      exact ⟨_, rfl, sz_ok (by simp only [app_len, c9, c0]; omega), ⟨_, rfl, .inl ⟨y, rfl, sz_ok (by omega), _, rfl, sz_ok (by simp only [app_len, c9, c0]; omega), ⟨ha, fin _ rfl⟩⟩⟩⟩
    · have hs := EvX.intw_len hi
      exact ⟨_, rfl, sz_ok (by simp only [app_len, c9, c0]; omega), ⟨_, rfl, .inr ⟨i, rfl, EvX.intw_log hi, _, rfl, sz_ok (by simp only [app_len, c9, c0]; omega), ⟨ha, fin _ rfl⟩⟩⟩⟩
end
end Ow

set_option Elab.async false
set_option linter.all false
set_option maxRecDepth 100000
set_option maxHeartbeats 1000000
namespace Ow
open PySem PySem.Spec PyProof.Rows L2
/-- a classmethod of the class at C, with its promise -/
structure CalC (P : Program) (w : World) (K : PySem.W.Frag) (mg : Str → Option Value) (base : Heap) (C : Addr) (m : Str) (k : Nat) (sp : Sp) : Prop where
  ex : ∃ (mc : Value) (p g : Addr), ClX.CRead K C mc ∧ ClX.CMet K C mc m p g ∧ FnR P w K mg base CX0 k g sp
section
variable {X : Cx} {k : Nat} {sp : Sp} {x m : Str} {e o : Expr} {es : List Expr} {t : TA} {te : TE} {p pos apos : Pos} {C : Addr}
theorem pe_calC {pl : Sem Bool} (c : CalC X.prog X.w X.K X.mg X.base C m k sp) (hr : Room k X.A) (ho : PE X o te) (ha : PA X (e :: es) t)
    (hst : starEach (e :: es) X.env = (false, eval e X.env) :: starEach es X.env := by rfl) (hpl : (backTo pos (starEach es X.env)).any (·.1) = false := by rfl)
    (ht : eval (.Call (.Attribute o m apos) (e :: es) [] pos) X.env = (do
      let ov ← eval o X.env
      standAt apos.atName
      let (f, first) ← holding [ov] (getMethod ov m pl)
      callWith pos f first (backTo pos (starEach (e :: es) X.env)) (backToKw pos (keywordEach [] X.env))) := by rfl) :
    PE X (.Call (.Attribute o m apos) (e :: es) [] pos) (ClX.tCMeth C sp E0 te t) := by
  obtain ⟨mc, q, g, r, cm, F⟩ := c.ex
  exact ClX.pe_cmeth ho r cm F hr pass0 ha hst hpl ht
end
/-- a dict comprehension over a walk -/
theorem dc_it {J : It} {n : Nat} {G : Hp → Prop} {Y : Nat → Hp → V → Hp → Prop} (w : Walk J n G Y) {g : TG} {tt : TT} {tk tv : TE} {vs : List Nat} {σ : L2.St} {H1 : Hp} {D : Addr} {Qd : Hp → Prop} (Pv : Nat → Hp → Prop) (h0 : Pv 0 (upd H1 D (.dK []))) (hG : ∀ i H, i ≤ n → Pv i H → G H)
    (hs : ∀ i x H H', i < n → Pv i H → Y i H x H' → g x (wipe σ vs) H' fun σ2 H2 => wipe σ2 vs = wipe σ vs ∧ tt σ2 H2 fun b H3 =>
      if b = true then tk σ2 H3 fun y H4 => tv σ2 H4 fun z H5 => ∃ kvs k, y = kV k ∧ H5 D = some (.dK kvs) ∧ kvs.length < sizeLine ∧ Pv (i + 1) (upd H5 D (.dK (putK kvs k z))) else Pv (i + 1) H3) (hd : ∀ H, Pv n H → Qd H) :
    ∃ W : Nat → Nat → Hp → Prop, (∃ m, W 0 m (upd H1 D (.dK []))) ∧ ∀ i m H, W i m H →
      (J.stop i H ∧ Qd H) ∨ (J.go i H ∧ ∃ Nx : Hp → Prop, (∀ H', Nx H' → ∃ m', m' < m ∧ W (i + 1) m' H') ∧ ∀ x H', J.yld i H x H' → g x (wipe σ vs) H' fun σ2 H2 => wipe σ2 vs = wipe σ vs ∧ tt σ2 H2 fun b H3 =>
        if b = true then tk σ2 H3 fun y H4 => tv σ2 H4 fun z H5 => ∃ kvs k, y = kV k ∧ H5 D = some (.dK kvs) ∧ kvs.length < sizeLine ∧ Nx (upd H5 D (.dK (putK kvs k z))) else Nx H3) := by
  refine ⟨fun i m H => m = n - i ∧ i ≤ n ∧ Pv i H, ⟨n, by simp, Nat.zero_le _, h0⟩, fun i m H hW => ?_⟩
  obtain ⟨rfl, hi, p⟩ := hW
  have q := hG i H hi p
  rcases Nat.lt_or_ge i n with hlt | hge
  · exact .inr ⟨w.goes i H hlt q, Pv (i + 1), fun H' p' => ⟨n - (i + 1), by omega, rfl, hlt, p'⟩, fun x H' y => hs i x H H' hlt p (w.yields i H x H' hlt q y)⟩
  · obtain rfl : i = n := by omega
    exact .inl ⟨w.stops H q, hd H p⟩
theorem pe_fldK {X : Cx} {e : Expr} {f : Str} {pos : Pos} {ta : TE} {K : PySem.W.Frag} (hK : X.K = K) (he : PE X e ta) (hb : attributeBase e f X.env (eval e X.env) = eval e X.env) : PE X (.Attribute e f pos) (tFld K ta f) := by
  subst hK
  exact pe_fld he hb
/-! ### forms -/
structure FormK (K : PySem.W.Frag) (C : Addr) : Prop where
  cl : Cls K C
  n1 : NoAttr K C "constant"
  n2 : NoAttr K C "_coefficients"
  ha : PySem.W.findIn K (.ref C) "__class__" = some (some (.builtin "object.__class__"))
  hn : PySem.W.specialIn K (.builtin "object.__class__") "__get__" = some (some (.builtin "getset_descriptor.__get__"))
  htk : PySem.W.takesIn K (.builtin "object.__class__") = some true
  hm : PySem.W.mroIn K C (.type "object") = some true
  i1 : PySem.W.kitOne K (.ref C) (.type "int") = some false
  i2 : PySem.W.kitOne K (.type "int") (.ref C) = some false
abbrev fF (c : Int) (d : Addr) : List (Str × V) := [("constant", .int c), ("_coefficients", .ref d)]
/-- p is a form: constant c, coefficients m (none is nought) -/
structure FormAt (C : Addr) (H : Hp) (p : Addr) (c : Int) (m : Ps) : Prop where
  ex : ∃ dx d, H p = some (.ins C dx (fF c d)) ∧ DictAt H d m
  nz : ∀ q ∈ m, q.2 ≠ 0
theorem FormAt.same {C : Addr} {H H' : Hp} {p : Addr} {c : Int} {m : Ps} (h : FormAt C H p c m) (s : Same H H') : FormAt C H' p c m := by
  obtain ⟨⟨dx, d, h1, h2⟩, n⟩ := h
  exact ⟨⟨dx, d, s _ _ h1, h2.same s⟩, n⟩
theorem FormAt.stay {C b : Addr} {H H' : Hp} {p : Addr} {c : Int} {m : Ps} (h : FormAt C H p c m) (s : Stay b H H') (hb : ∃ xs, H b = some (.lst xs)) : FormAt C H' p c m := by
  obtain ⟨⟨dx, d, h1, h2⟩, n⟩ := h
  obtain ⟨xs, hb⟩ := hb
  exact ⟨⟨dx, d, s _ _ (ne_of h1 hb (by intro z; cases z)) h1, s _ _ (ne_of h2.at_ hb (by intro z; cases z)) h2.at_, h2.nd, h2.sym⟩, n⟩
def nzs (m : Ps) : Ps := m.filter fun q => decide (q.2 ≠ 0)
theorem nzs_co : ∀ (m : Ps) (s : Str), co (nzs m) s = co m s
  | [], _ => rfl
  | (x, v) :: m, s => by
    have ih := nzs_co m s
    unfold nzs at ih ⊢
    rw [List.filter_cons]
    by_cases e : v = 0
    · subst e
      rw [if_neg (by simp)]
      show _ = (if x = s then 0 else 0) + co m s
      rw [ih]
      simp
    · rw [if_pos (by simpa using e)]
      show (if x = s then v else 0) + _ = (if x = s then v else 0) + co m s
      rw [ih]
theorem nzs_sub (m : Ps) : (nzs m).Sublist m := List.filter_sublist
theorem nzs_nz {m : Ps} : ∀ q ∈ nzs m, q.2 ≠ 0 := fun q hq => of_decide_eq_true (List.mem_filter.mp hq).2
theorem nzs_take {m : Ps} {i : Nat} {q : Str × Int} (h : m[i]? = some q) : nzs (m.take (i + 1)) = nzs (m.take i) ++ if q.2 = 0 then [] else [q] := by
  unfold nzs
  rw [take_snoc h, List.filter_append]
  congr 1
  by_cases e : q.2 = 0
  · rw [if_pos e]
    simp [e]
  · rw [if_neg e]
    simp [e]
theorem take_new {m : Ps} {i : Nat} {q : Str × Int} (nd : (m.map (·.1)).Nodup) (h : m[i]? = some q) : q.1 ∉ (nzs (m.take i)).map (·.1) := by
  intro hq
  have h1 : q.1 ∈ (m.take i).map (·.1) := ((nzs_sub _).map _).subset hq
  have h2 : ((m.take (i + 1)).map (·.1)).Nodup := nd.sublist ((List.take_sublist _ _).map _)
  rw [take_snoc h, List.map_append, List.nodup_append] at h2
  exact h2.2.2 _ h1 q.1 (by simp) rfl
theorem keyed_kvI (m : Ps) : KwX.keyed (m.map fun p => (p.1, V.int p.2)) = kvI m := by
  unfold KwX.keyed kvI
  rw [List.map_map]
  rfl
def spInit (C : Addr) : Sp := fun vs H Q _ => ∃ (x d dx : Addr) (c : Int) (m : Ps), vs = [.ref x, .int c, .ref d] ∧ H x = some (.ins C dx []) ∧ DictAt H d m ∧ m.length < 64 ∧
  ∀ d' H', H d' = none → H' x = some (.ins C dx (fF c d')) → DictAt H' d' (nzs m) → Stay x H H' → Q .non H'
def spOf (C : Addr) : Sp := fun vs H Q _ => ∃ (c : Int) (l : Addr) (ps : Ps), vs = [.ref C, .int c, .ref l] ∧ PairsAt H l ps ∧ (∀ q ∈ ps, isSym q.1 = true) ∧ ps.length < 64 ∧
  ∀ p m H', H p = none → FormAt C H' p c m → m.length ≤ ps.length → (∀ s, co m s = co ps s) → Same H H' → Q (.ref p) H'
def spSymbols (C : Addr) : Sp := fun vs H Q _ => ∃ (p : Addr) (c : Int) (m : Ps), vs = [.ref p] ∧ FormAt C H p c m ∧ m.length < 64 ∧
  ∀ l ys H', ys.Perm (m.map (·.1)) → sortedS ys = true → H l = none → H' l = some (.lst (ys.map V.str)) → Same H H' → Q (.ref l) H'
def spFPairs (C : Addr) : Sp := fun vs H Q _ => ∃ (p : Addr) (c : Int) (m : Ps), vs = [.ref p] ∧ FormAt C H p c m ∧ m.length < 64 ∧
  ∀ l L H', PairsAt H' l L → Can L (co m) → (∀ q ∈ L, isSym q.1 = true) → L.length ≤ m.length → H l = none → Same H H' → Q (.ref l) H'
def spFWritten (C : Addr) : Sp := fun vs H Q _ => ∃ (p : Addr) (c : Int) (m : Ps), vs = [.ref p] ∧ FormAt C H p c m ∧ m.length < 64 ∧
  ∀ x L H', WrAt H' x c L → Can L (co m) → (∀ q ∈ L, isSym q.1 = true) → Same H H' → Q x H'
end Ow

set_option Elab.async false
set_option linter.all false
set_option maxRecDepth 100000
set_option maxHeartbeats 1000000
namespace Ow
open PySem PySem.Spec PyProof.Rows L2
section
variable {X : Cx} {k : Nat} {sp : Sp} {C : Addr}
theorem op_or {f : Value → Value → Sem Value} {r1 r2 : R2} (h1 : OpR X f r1) (h2 : OpR X f r2) : OpR X f (fun x y H Q => r1 x y H Q ∨ r2 x y H Q) :=
  fun pins s σ H x y v u Q I rx ry h => h.elim (h1 pins s σ H x y v u Q I rx ry) (h2 pins s σ H x y v u Q I rx ry)
theorem un_or {f : Value → Sem Value} {r1 r2 : V → Hp → VK → Prop} (h1 : UnR X f r1) (h2 : UnR X f r2) : UnR X f (fun x H Q => r1 x H Q ∨ r2 x H Q) :=
  fun pins s σ H x v Q I rx h => h.elim (h1 pins s σ H x v Q I rx) (h2 pins s σ H x v Q I rx)
/-- an operator of the class at C, with its promise -/
structure CalO (P : Program) (w : World) (K : PySem.W.Frag) (mg : Str → Option Value) (base : Heap) (C : Addr) (op : Operator) (k : Nat) (sp : Sp) : Prop where
  ex : ∃ (f : Addr) (fd : FuncData) (ps : List Str), OpX.OpC K C op f ∧ FnOk P w K mg base CX0 k f fd ps sp ∧ Binds K fd ps []
theorem op_calO {op : Operator} (c : CalO X.prog X.w X.K X.mg X.base C op k sp) (hr : Room k X.A) : OpR X (binaryOp op) (OpX.rOwn C sp E0) := by
  obtain ⟨f, fd, ps, O, F, hb⟩ := c.ex
  exact OpX.op_own O F hr hb pass0
structure CalR (P : Program) (w : World) (K : PySem.W.Frag) (mg : Str → Option Value) (base : Heap) (C : Addr) (op : Operator) (k : Nat) (sp : Sp) : Prop where
  ex : ∃ (f : Addr) (fd : FuncData) (ps : List Str), OpX.OpR' K C op f ∧ FnOk P w K mg base CX0 k f fd ps sp ∧ Binds K fd ps []
theorem op_calR {op : Operator} {id : String} (L : OpX.IntL op id) (c : CalR X.prog X.w X.K X.mg X.base C op k sp) (hr : Room k X.A) : OpR X (binaryOp op) (OpX.rRev C sp E0) := by
  obtain ⟨f, fd, ps, O, F, hb⟩ := c.ex
  exact OpX.op_rev L O F hr hb pass0
structure CalU (P : Program) (w : World) (K : PySem.W.Frag) (mg : Str → Option Value) (base : Heap) (C : Addr) (k : Nat) (sp : Sp) : Prop where
  ex : ∃ (f : Addr) (fd : FuncData) (ps : List Str), PySem.W.findIn K (.ref C) "__neg__" = some (some (.ref f)) ∧ PySem.W.isFn K (.ref f) = true ∧ FnOk P w K mg base CX0 k f fd ps sp ∧ Binds K fd ps []
def rNeg (C : Addr) (sp : Sp) : V → Hp → VK → Prop := fun x H Q => ∃ a dx fs, x = .ref a ∧ H a = some (.ins C dx fs) ∧ sp [x] H Q E0
theorem un_calU (c : CalU X.prog X.w X.K X.mg X.base C k sp) (hr : Room k X.A) : UnR X (unaryOp .USub) (rNeg C sp) := by
  obtain ⟨f, fd, ps, hs, hf, F, hb⟩ := c.ex
  exact OpX.un_own hs hf F hr hb pass0
end
/-! ### what stands at the right of an operator: an int, or a form -/
def OprAt (C : Addr) (H : Hp) (y : V) (k : Int) (g : Str → Int) (n : Nat) : Prop :=
  (y = .int k ∧ (∀ s, g s = 0) ∧ n = 0) ∨ ∃ a m, y = .ref a ∧ FormAt C H a k m ∧ (∀ s, g s = co m s) ∧ n = m.length
theorem OprAt.same {C : Addr} {H H' : Hp} {y : V} {k : Int} {g : Str → Int} {n : Nat} (h : OprAt C H y k g n) (s : Same H H') : OprAt C H' y k g n := by
  rcases h with h | ⟨a, m, h1, h2, h3⟩
  · exact .inl h
  · exact .inr ⟨a, m, h1, h2.same s, h3⟩
def MulOk (i j : Int) : Prop := CMul i j ∨ CMulW i j
theorem MulOk.neg (i : Int) : MulOk i (-1) := .inl (.inr ⟨by decide, by decide⟩)
/-- an operator on forms: what the new one is -/
def OutF (C : Addr) (H : Hp) (Q : VK) (c : Int) (g : Str → Int) (n : Nat) : Prop :=
  ∀ p m H', H p = none → FormAt C H' p c m → (∀ s, co m s = g s) → m.length ≤ n → Same H H' → Q (.ref p) H'
def spAdd (C : Addr) : Sp := fun vs H Q _ => ∃ (p : Addr) (c : Int) (m : Ps) (y : V) (k : Int) (g : Str → Int) (n : Nat), vs = [.ref p, y] ∧ FormAt C H p c m ∧ OprAt C H y k g n ∧ m.length < 30 ∧ n < 30 ∧
  OutF C H Q (c + k) (fun s => co m s + g s) (m.length + n)
def spSub (C : Addr) : Sp := fun vs H Q _ => ∃ (p : Addr) (c : Int) (m : Ps) (y : V) (k : Int) (g : Str → Int) (n : Nat), vs = [.ref p, y] ∧ FormAt C H p c m ∧ OprAt C H y k g n ∧ m.length < 30 ∧ n < 30 ∧
  OutF C H Q (c - k) (fun s => co m s - g s) (m.length + n)
def spRsub (C : Addr) : Sp := fun vs H Q _ => ∃ (p : Addr) (c : Int) (m : Ps) (k : Int), vs = [.ref p, .int k] ∧ FormAt C H p c m ∧ m.length < 30 ∧ OutF C H Q (k - c) (fun s => -co m s) m.length
def spRadd (C : Addr) : Sp := fun vs H Q _ => ∃ (p : Addr) (c : Int) (m : Ps) (k : Int), vs = [.ref p, .int k] ∧ FormAt C H p c m ∧ m.length < 30 ∧ OutF C H Q (c + k) (fun s => co m s) m.length
def spNeg (C : Addr) : Sp := fun vs H Q _ => ∃ (p : Addr) (c : Int) (m : Ps), vs = [.ref p] ∧ FormAt C H p c m ∧ m.length < 30 ∧ OutF C H Q (-c) (fun s => -co m s) m.length
def spMul (C : Addr) : Sp := fun vs H Q _ => ∃ (p : Addr) (c : Int) (m : Ps) (k : Int), vs = [.ref p, .int k] ∧ FormAt C H p c m ∧ m.length < 60 ∧ MulOk c k ∧ (∀ q ∈ m, MulOk q.2 k) ∧ OutF C H Q (c * k) (fun s => co m s * k) m.length
def spTimes : Sp := fun vs H Q _ => ∃ (a : Addr) (m : Ps) (k : Int), vs = [.ref a, .int k] ∧ DictAt H a m ∧ m.length < 30 ∧ (∀ q ∈ m, MulOk k q.2) ∧
  ∀ d m' H', H d = none → DictAt H' d m' → m'.length ≤ m.length → (∀ s, co m' s = k * co m s) → Same H H' → Q (.ref d) H'
theorem co_mulL (L : Ps) (k : Int) (s : Str) : co (L.map fun q => (q.1, k * q.2)) s = k * co L s := by
  induction L with
  | nil => exact (Int.mul_zero k).symm
  | cons q L ih =>
    show (if q.1 = s then k * q.2 else 0) + co (L.map fun q => (q.1, k * q.2)) s = k * ((if q.1 = s then q.2 else 0) + co L s)
    rw [ih, Int.mul_add]
    by_cases e : q.1 = s
    · rw [if_pos e, if_pos e]
    · rw [if_neg e, if_neg e, Int.mul_zero]
theorem co_mul (L : Ps) (k : Int) (s : Str) : co (L.map fun q => (q.1, q.2 * k)) s = co L s * k := by
  induction L with
  | nil => exact (Int.zero_mul k).symm
  | cons q L ih =>
    show (if q.1 = s then q.2 * k else 0) + co (L.map fun q => (q.1, q.2 * k)) s = ((if q.1 = s then q.2 else 0) + co L s) * k
    rw [ih, Int.add_mul]
    by_cases e : q.1 = s
    · rw [if_pos e, if_pos e]
    · rw [if_neg e, if_neg e, Int.zero_mul]
theorem form_ty {K : PySem.W.Frag} {C : Addr} {H : Hp} {p : Addr} {c : Int} {m : Ps} (R : FormK K C) (h : FormAt C H p c m) : TyX K H (.ref p) (.ref C) := by
  obtain ⟨⟨dx, d, h1, _⟩, _⟩ := h
  exact .base (.ins h1 R.cl R.ha R.hn R.htk R.hm)
theorem kit_same {K : PySem.W.Frag} (t : Value) : PySem.W.kitOne K t t = some true := by
  unfold PySem.W.kitOne
  rw [if_pos (beq_self_eq_true t)]
/-- isinstance of an int and of a form -/
theorem isi_int {K : PySem.W.Frag} {H : Hp} {Q : VK} {i : Int} (h : Q (.bl true) H) : rIsi K [.int i, .ty "int"] H Q := ⟨_, _, _, _, true, rfl, .ty "int", .base (.int i), kit_same _, h⟩
theorem isi_int0 {K : PySem.W.Frag} {C : Addr} {H : Hp} {Q : VK} {i : Int} (R : FormK K C) (h : Q (.bl false) H) : rIsi K [.int i, .ref C] H Q := ⟨_, _, _, _, false, rfl, .own C, .base (.int i), R.i2, h⟩
theorem isi_form {K : PySem.W.Frag} {C : Addr} {H : Hp} {Q : VK} {p : Addr} {c : Int} {m : Ps} (R : FormK K C) (hF : FormAt C H p c m) (h : Q (.bl true) H) : rIsi K [.ref p, .ref C] H Q := ⟨_, _, _, _, true, rfl, .own C, form_ty R hF, kit_same _, h⟩
theorem isi_form0 {K : PySem.W.Frag} {C : Addr} {H : Hp} {Q : VK} {p : Addr} {c : Int} {m : Ps} (R : FormK K C) (hF : FormAt C H p c m) (h : Q (.bl false) H) : rIsi K [.ref p, .ty "int"] H Q := ⟨_, _, _, _, false, rfl, .ty "int", form_ty R hF, R.i1, h⟩
theorem paired_app {α β : Type} {F : α → β → Prop} {l2 : List α} {m2 : List β} (h : Paired F l2 m2) : ∀ {l : List α} {m : List β}, Paired F l m → Paired F (l ++ l2) (m ++ m2)
  | _, _, .nil => h
  | _, _, .cons g r => .cons g (paired_app h r)
theorem none_back {H H' : Hp} {a : Addr} (s : Same H H') (h : H' a = none) : H a = none := by
  cases q : H a with
  | none => rfl
  | some o => rw [s _ _ q] at h; cases h
end Ow

set_option Elab.async false
set_option linter.all false
set_option maxRecDepth 100000
set_option maxHeartbeats 1000000
namespace Ow
open PySem PySem.Spec PyProof.Rows L2
theorem same_stay {b : Addr} {H H1 H2 : Hp} (s : Same H H1) (hb : H b = none) (t : Stay b H1 H2) : Same H H2 := fun a o e => t a o (ne_of_none e hb) (s a o e)
theorem seq_cut {a b : TS} {D : Ends} {σ : L2.St} {H : Hp} (R : Hp → Prop) (fin : ∀ H', R H' → b D σ H') (main : (∀ H', R H' → b D σ H') → tSeq a b D σ H) : tSeq a b D σ H := main fin
def spLaw (K : PySem.W.Frag) : Sp := fun vs H Q _ => ∃ (a : Addr) (ns : List Int), vs = [.ref a] ∧ SqL K H a (ns.map V.int) ∧ ns.length ≤ 63 ∧ ∀ H', Q (.bl true) H'
/-- two written tuples are one -/
theorem wr_one {L L' : Ps} {g g' : Str → Int} {c c' : Int} (c1 : Can L g) (c2 : Can L' g') (e : ∀ s, g s = g' s) (ec : c = c') (hS : ∀ q ∈ L, isSym q.1 = true) : PyData.eqv (datW c L) (datW c' L') = true := by
  rw [← can_one c1 c2 e, ← ec]
  exact eqvW c hS
theorem can_nil {L : Ps} {g : Str → Int} (c : Can L g) (h : ∀ s, g s = 0) : L = [] := by
  cases L with
  | nil => rfl
  | cons q L => exact absurd (h q.1) ((can_mem c q.1).mp (by simp))
theorem wr_nil {L : Ps} {g : Str → Int} {c : Int} (c1 : Can L g) (h : ∀ s, g s = 0) (ec : c = 0) : PyData.eqv (datW c L) (.tuple [.int 0, .tuple []]) = true := by
  rw [can_nil c1 h, ec]
  rfl
theorem PairsAt.over {H : Hp} {l x : Addr} {ps : Ps} {xs ys : List V} (h : PairsAt H l ps) (hx : H x = some (.lst xs)) (ne : l ≠ x) : PairsAt (L2.upd H x (.lst ys)) l ps := by
  obtain ⟨zs, hz, hp⟩ := h
  refine ⟨zs, (upd_ne ne).trans hz, paired_map (fun y q hq => ?_) hp⟩
  obtain ⟨u, rfl, hu⟩ := hq
  exact ⟨u, rfl, (upd_ne (ne_of hu hx (by intro z; cases z))).trans hu⟩
theorem pairs_copy {H : Hp} {l : Addr} {ps : Ps} {xs : List V} (hp : Paired (PairAt H) xs ps) (hl : H l = none) : PairsAt (upd H l (.lst xs)) l ps :=
  ⟨xs, upd_same, paired_map (fun _ _ q => q.same (same_new (fun _ _ e => e) hl)) hp⟩
end Ow

set_option Elab.async false
set_option linter.all false
set_option maxRecDepth 100000
set_option maxHeartbeats 8000000
namespace Ow
open PySem PySem.Spec PyProof.Rows L2 ErX
local macro_rules | `(tactic| walk_at "rd") => `(tactic| repeat (first | (refine ⟨_, rfl, ?_⟩) | (refine ⟨_, _, rfl, rfl, ?_⟩) | (refine ⟨rfl, ?_⟩) | (refine ⟨_, _, rfl, ?_⟩) | (refine Or.inl ⟨_, rfl, ?_⟩) | (refine ⟨(by first | (show (0 : Int) < (_ : Int); decide) | exact Or.inl ⟨by decide, by decide⟩ | exact Or.inr ⟨by decide, by decide⟩ | exact ⟨by decide, by decide⟩ | exact ⟨by decide, by decide, by decide⟩), ?_⟩)))
def bls (b : Nat → Bool) : List V := (List.range 15).map fun i => V.bl (b i)
theorem err_same {H H' : Hp} {a D : Addr} (h : EvX.ErrAt H a D) (s : Same H H') : EvX.ErrAt H' a D := by
  rcases h with ⟨d, fs, h1, h2⟩ | h
  · exact .inl ⟨d, fs, s _ _ h1, s _ _ h2⟩
  · exact .inr (s _ _ h)
def spClasses (K : PySem.W.Frag) (cs : Nat → Addr) : Sp := fun vs H Q _ => ∃ (a D : Addr) (b : Nat → Bool), vs = [.ref a] ∧ EvX.ErrAt H a D ∧ L2.ExcC K D ∧ (∀ i, i < 15 → PySem.W.kitOne K (.ref D) (.ref (cs i)) = some (b i)) ∧ ∀ l H', H l = none → H' l = some (.lst (bls b)) → Same H H' → Q (.ref l) H'
section
variable {P : Program} {w : World} {K : PySem.W.Frag} {mg : Str → Option Value} {base : Heap} {cs : Nat → Addr}
abbrev s_law_classes : Stmt := top 24
theorem sc_law_classes : FnScope ["e", "found"] ["e"] (defScope s_law_classes) := ⟨rfl, rfl, rfl, by decide +kernel, rfl, by decide +kernel, by decide +kernel⟩
theorem ok_classes {f : Addr} {fd : FuncData} (F : Fun K "_law_classes" "_law_classes" s_law_classes f fd) (T : Txt mg) (M0 : ∀ base : Heap, EvX.ErV P w K mg base 2 "BadSymbol" (cs 0) ["symbol"] (EvX.spEw (cs 0) "symbol")) (M1 : ∀ base : Heap, EvX.ErV P w K mg base 2 "BadDomain" (cs 1) ["symbol"] (EvX.spEw (cs 1) "symbol")) (M2 : ∀ base : Heap, EvX.ErV P w K mg base 2 "BadFunction" (cs 2) ["row"] (EvX.spEw (cs 2) "row")) (M3 : ∀ base : Heap, EvX.ErV P w K mg base 2 "TooMany" (cs 3) ["what"] (EvX.spEw (cs 3) "what")) (M4 : ∀ base : Heap, EvX.ErV P w K mg base 2 "NotCut" (cs 4) ["row"] (EvX.spEw (cs 4) "row")) (M5 : ∀ base : Heap, EvX.ErV P w K mg base 2 "Amid" (cs 5) ["half"] (EvX.spEw (cs 5) "half")) (M6 : ∀ base : Heap, EvX.ErV P w K mg base 2 "Closed" (cs 6) ["number"] (EvX.spEw (cs 6) "number")) (M7 : ∀ base : Heap, EvX.ErV P w K mg base 2 "Starved" (cs 7) ["number"] (EvX.spEw (cs 7) "number")) (M8 : ∀ base : Heap, EvX.ErV P w K mg base 2 "Failed" (cs 8) ["row"] (EvX.spEw (cs 8) "row")) (M9 : ∀ base : Heap, EvX.ErV P w K mg base 2 "Cut" (cs 9) ["row"] (EvX.spEw (cs 9) "row")) (M10 : ∀ base : Heap, EvX.ErV P w K mg base 2 "BadDoor" (cs 10) ["word"] (EvX.spEw (cs 10) "word")) (M11 : ∀ base : Heap, EvX.ErV P w K mg base 2 "BadName" (cs 11) ["name"] (EvX.spEw (cs 11) "name")) (M12 : ∀ base : Heap, EvX.ErV P w K mg base 2 "NotLent" (cs 12) ["number"] (EvX.spEw (cs 12) "number")) (M13 : ∀ base : Heap, EvX.ErV P w K mg base 2 "BadMove" (cs 13) ["at"] (EvX.spEw (cs 13) "at")) (M14 : ∀ base : Heap, EvX.ErV P w K mg base 2 "Faulty" (cs 14) ["kind", "lengths", "moves"] (EvX.spE3 (cs 14) "kind" "lengths" "moves")) : FnOk P w K mg base CX0 1 f fd ["e"] (spClasses K cs) := by
  refine F.ok sc_law_classes (fun vs H Q E h => ?_) (fun cdv A outer s H vs Q E hr h => ?_)
  · obtain ⟨a, D, b, rfl, _⟩ := h
    rfl
  · obtain ⟨a, D, b, rfl, hE, hX, hk, k⟩ := h
    have hu := hu_of hr
    refine ⟨_, (pss_cons (ps_set (i := 1) sc_law_classes.nd rfl (Or.inl rfl) (pe_lst (pa_cons (pe_callB EvX.call_isV (by rfl) T.n_isinstance (by decide +kernel) (pa_cons (pv 0) (pa_cons (pe_glob (v := .ref (cs 0)) rfl (M0 base).gm rfl) pa_nil))) (pa_cons (pe_callB EvX.call_isV (by rfl) T.n_isinstance (by decide +kernel) (pa_cons (pv 0) (pa_cons (pe_glob (v := .ref (cs 1)) rfl (M1 base).gm rfl) pa_nil))) (pa_cons (pe_callB EvX.call_isV (by rfl) T.n_isinstance (by decide +kernel) (pa_cons (pv 0) (pa_cons (pe_glob (v := .ref (cs 2)) rfl (M2 base).gm rfl) pa_nil))) (pa_cons (pe_callB EvX.call_isV (by rfl) T.n_isinstance (by decide +kernel) (pa_cons (pv 0) (pa_cons (pe_glob (v := .ref (cs 3)) rfl (M3 base).gm rfl) pa_nil))) pa_nil))))))
      (pss_cons (ps_set (i := 1) sc_law_classes.nd rfl (Or.inl rfl) (pe_op op_cat (pv 1) (pe_lst (pa_cons (pe_callB EvX.call_isV (by rfl) T.n_isinstance (by decide +kernel) (pa_cons (pv 0) (pa_cons (pe_glob (v := .ref (cs 4)) rfl (M4 base).gm rfl) pa_nil))) (pa_cons (pe_callB EvX.call_isV (by rfl) T.n_isinstance (by decide +kernel) (pa_cons (pv 0) (pa_cons (pe_glob (v := .ref (cs 5)) rfl (M5 base).gm rfl) pa_nil))) (pa_cons (pe_callB EvX.call_isV (by rfl) T.n_isinstance (by decide +kernel) (pa_cons (pv 0) (pa_cons (pe_glob (v := .ref (cs 6)) rfl (M6 base).gm rfl) pa_nil))) (pa_cons (pe_callB EvX.call_isV (by rfl) T.n_isinstance (by decide +kernel) (pa_cons (pv 0) (pa_cons (pe_glob (v := .ref (cs 7)) rfl (M7 base).gm rfl) pa_nil))) pa_nil)))))))
      (pss_cons (ps_set (i := 1) sc_law_classes.nd rfl (Or.inl rfl) (pe_op op_cat (pv 1) (pe_lst (pa_cons (pe_callB EvX.call_isV (by rfl) T.n_isinstance (by decide +kernel) (pa_cons (pv 0) (pa_cons (pe_glob (v := .ref (cs 8)) rfl (M8 base).gm rfl) pa_nil))) (pa_cons (pe_callB EvX.call_isV (by rfl) T.n_isinstance (by decide +kernel) (pa_cons (pv 0) (pa_cons (pe_glob (v := .ref (cs 9)) rfl (M9 base).gm rfl) pa_nil))) (pa_cons (pe_callB EvX.call_isV (by rfl) T.n_isinstance (by decide +kernel) (pa_cons (pv 0) (pa_cons (pe_glob (v := .ref (cs 10)) rfl (M10 base).gm rfl) pa_nil))) (pa_cons (pe_callB EvX.call_isV (by rfl) T.n_isinstance (by decide +kernel) (pa_cons (pv 0) (pa_cons (pe_glob (v := .ref (cs 11)) rfl (M11 base).gm rfl) pa_nil))) pa_nil)))))))
      (pss_one (ps_ret (pe_op op_cat (pv 1) (pe_lst (pa_cons (pe_callB EvX.call_isV (by rfl) T.n_isinstance (by decide +kernel) (pa_cons (pv 0) (pa_cons (pe_glob (v := .ref (cs 12)) rfl (M12 base).gm rfl) pa_nil))) (pa_cons (pe_callB EvX.call_isV (by rfl) T.n_isinstance (by decide +kernel) (pa_cons (pv 0) (pa_cons (pe_glob (v := .ref (cs 13)) rfl (M13 base).gm rfl) pa_nil))) (pa_cons (pe_callB EvX.call_isV (by rfl) T.n_isinstance (by decide +kernel) (pa_cons (pv 0) (pa_cons (pe_glob (v := .ref (cs 14)) rfl (M14 base).gm rfl) pa_nil))) pa_nil)))))))))), ?_⟩
    walk_at "rd"
    refine ⟨a, D, _, _, _, rfl, hE, hX, fun _ h => h, hk 0 (by decide), ?_⟩
    walk_at "rd"
    refine ⟨a, D, _, _, _, rfl, hE, hX, fun _ h => h, hk 1 (by decide), ?_⟩
    walk_at "rd"
    refine ⟨a, D, _, _, _, rfl, hE, hX, fun _ h => h, hk 2 (by decide), ?_⟩
    walk_at "rd"
    refine ⟨a, D, _, _, _, rfl, hE, hX, fun _ h => h, hk 3 (by decide), ?_⟩
    walk_at "rd"
    refine ⟨by show 4 ≤ sizeLine; decide, fun l1 hl1 => ?_⟩
    have S1 := same_new (o := .lst [.bl (b 0), .bl (b 1), .bl (b 2), .bl (b 3)]) (fun a u (e : H a = some u) => e) hl1
    have h1 : upd H l1 (.lst [.bl (b 0), .bl (b 1), .bl (b 2), .bl (b 3)]) l1 = some (.lst [.bl (b 0), .bl (b 1), .bl (b 2), .bl (b 3)]) := upd_same
    generalize upd H l1 (.lst [.bl (b 0), .bl (b 1), .bl (b 2), .bl (b 3)]) = H1 at S1 h1
    have hE0 := hE
    have hE := err_same hE S1
    walk_at "rd"
    refine ⟨a, D, _, _, _, rfl, hE, hX, fun _ h => h, hk 4 (by decide), ?_⟩
    walk_at "rd"
    refine ⟨a, D, _, _, _, rfl, hE, hX, fun _ h => h, hk 5 (by decide), ?_⟩
    walk_at "rd"
    refine ⟨a, D, _, _, _, rfl, hE, hX, fun _ h => h, hk 6 (by decide), ?_⟩
    walk_at "rd"
    refine ⟨a, D, _, _, _, rfl, hE, hX, fun _ h => h, hk 7 (by decide), ?_⟩
    walk_at "rd"
    refine ⟨by show 4 ≤ sizeLine; decide, fun m2 hm2 => ?_⟩
    have T2 := same_new (o := .lst [.bl (b 4), .bl (b 5), .bl (b 6), .bl (b 7)]) S1 hm2
    have g2 : upd H1 m2 (.lst [.bl (b 4), .bl (b 5), .bl (b 6), .bl (b 7)]) m2 = some (.lst [.bl (b 4), .bl (b 5), .bl (b 6), .bl (b 7)]) := upd_same
    have p2 : upd H1 m2 (.lst [.bl (b 4), .bl (b 5), .bl (b 6), .bl (b 7)]) l1 = some (.lst [.bl (b 0), .bl (b 1), .bl (b 2), .bl (b 3)]) := (upd_ne (ne_of_none h1 hm2)).trans h1
    generalize upd H1 m2 (.lst [.bl (b 4), .bl (b 5), .bl (b 6), .bl (b 7)]) = G2 at T2 g2 p2
    refine ⟨l1, m2, _, _, rfl, rfl, p2, g2, by show 8 ≤ sizeLine; decide, fun l2 hl2 => ?_⟩
    have S2 := same_new (o := .lst ([.bl (b 0), .bl (b 1), .bl (b 2), .bl (b 3)] ++ [.bl (b 4), .bl (b 5), .bl (b 6), .bl (b 7)])) T2 hl2
    have h2 : upd G2 l2 (.lst ([.bl (b 0), .bl (b 1), .bl (b 2), .bl (b 3)] ++ [.bl (b 4), .bl (b 5), .bl (b 6), .bl (b 7)])) l2 = some (.lst [.bl (b 0), .bl (b 1), .bl (b 2), .bl (b 3), .bl (b 4), .bl (b 5), .bl (b 6), .bl (b 7)]) := upd_same
    generalize upd G2 l2 (.lst ([.bl (b 0), .bl (b 1), .bl (b 2), .bl (b 3)] ++ [.bl (b 4), .bl (b 5), .bl (b 6), .bl (b 7)])) = H2 at S2 h2
    have hE := err_same hE0 S2
    walk_at "rd"
    refine ⟨a, D, _, _, _, rfl, hE, hX, fun _ h => h, hk 8 (by decide), ?_⟩
    walk_at "rd"
    refine ⟨a, D, _, _, _, rfl, hE, hX, fun _ h => h, hk 9 (by decide), ?_⟩
    walk_at "rd"
    refine ⟨a, D, _, _, _, rfl, hE, hX, fun _ h => h, hk 10 (by decide), ?_⟩
    walk_at "rd"
    refine ⟨a, D, _, _, _, rfl, hE, hX, fun _ h => h, hk 11 (by decide), ?_⟩
    walk_at "rd"
    refine ⟨by show 4 ≤ sizeLine; decide, fun m3 hm3 => ?_⟩
    have T3 := same_new (o := .lst [.bl (b 8), .bl (b 9), .bl (b 10), .bl (b 11)]) S2 hm3
    have g3 : upd H2 m3 (.lst [.bl (b 8), .bl (b 9), .bl (b 10), .bl (b 11)]) m3 = some (.lst [.bl (b 8), .bl (b 9), .bl (b 10), .bl (b 11)]) := upd_same
    have p3 : upd H2 m3 (.lst [.bl (b 8), .bl (b 9), .bl (b 10), .bl (b 11)]) l2 = some (.lst [.bl (b 0), .bl (b 1), .bl (b 2), .bl (b 3), .bl (b 4), .bl (b 5), .bl (b 6), .bl (b 7)]) := (upd_ne (ne_of_none h2 hm3)).trans h2
    generalize upd H2 m3 (.lst [.bl (b 8), .bl (b 9), .bl (b 10), .bl (b 11)]) = G3 at T3 g3 p3
    refine ⟨l2, m3, _, _, rfl, rfl, p3, g3, by show 12 ≤ sizeLine; decide, fun l3 hl3 => ?_⟩
    have S3 := same_new (o := .lst ([.bl (b 0), .bl (b 1), .bl (b 2), .bl (b 3), .bl (b 4), .bl (b 5), .bl (b 6), .bl (b 7)] ++ [.bl (b 8), .bl (b 9), .bl (b 10), .bl (b 11)])) T3 hl3
    have h3 : upd G3 l3 (.lst ([.bl (b 0), .bl (b 1), .bl (b 2), .bl (b 3), .bl (b 4), .bl (b 5), .bl (b 6), .bl (b 7)] ++ [.bl (b 8), .bl (b 9), .bl (b 10), .bl (b 11)])) l3 = some (.lst [.bl (b 0), .bl (b 1), .bl (b 2), .bl (b 3), .bl (b 4), .bl (b 5), .bl (b 6), .bl (b 7), .bl (b 8), .bl (b 9), .bl (b 10), .bl (b 11)]) := upd_same
    generalize upd G3 l3 (.lst ([.bl (b 0), .bl (b 1), .bl (b 2), .bl (b 3), .bl (b 4), .bl (b 5), .bl (b 6), .bl (b 7)] ++ [.bl (b 8), .bl (b 9), .bl (b 10), .bl (b 11)])) = H3 at S3 h3
    have hE := err_same hE0 S3
    walk_at "rd"
    refine ⟨a, D, _, _, _, rfl, hE, hX, fun _ h => h, hk 12 (by decide), ?_⟩
    walk_at "rd"
    refine ⟨a, D, _, _, _, rfl, hE, hX, fun _ h => h, hk 13 (by decide), ?_⟩
    walk_at "rd"
    refine ⟨a, D, _, _, _, rfl, hE, hX, fun _ h => h, hk 14 (by decide), ?_⟩
    walk_at "rd"
    refine ⟨by show 3 ≤ sizeLine; decide, fun m4 hm4 => ?_⟩
    have T4 := same_new (o := .lst [.bl (b 12), .bl (b 13), .bl (b 14)]) S3 hm4
    have g4 : upd H3 m4 (.lst [.bl (b 12), .bl (b 13), .bl (b 14)]) m4 = some (.lst [.bl (b 12), .bl (b 13), .bl (b 14)]) := upd_same
    have p4 : upd H3 m4 (.lst [.bl (b 12), .bl (b 13), .bl (b 14)]) l3 = some (.lst [.bl (b 0), .bl (b 1), .bl (b 2), .bl (b 3), .bl (b 4), .bl (b 5), .bl (b 6), .bl (b 7), .bl (b 8), .bl (b 9), .bl (b 10), .bl (b 11)]) := (upd_ne (ne_of_none h3 hm4)).trans h3
    generalize upd H3 m4 (.lst [.bl (b 12), .bl (b 13), .bl (b 14)]) = G4 at T4 g4 p4
    refine ⟨l3, m4, _, _, rfl, rfl, p4, g4, by show 15 ≤ sizeLine; decide, fun l4 hl4 => ?_⟩
    have S4 := same_new (o := .lst ([.bl (b 0), .bl (b 1), .bl (b 2), .bl (b 3), .bl (b 4), .bl (b 5), .bl (b 6), .bl (b 7), .bl (b 8), .bl (b 9), .bl (b 10), .bl (b 11)] ++ [.bl (b 12), .bl (b 13), .bl (b 14)])) T4 hl4
    have h4 : upd G4 l4 (.lst ([.bl (b 0), .bl (b 1), .bl (b 2), .bl (b 3), .bl (b 4), .bl (b 5), .bl (b 6), .bl (b 7), .bl (b 8), .bl (b 9), .bl (b 10), .bl (b 11)] ++ [.bl (b 12), .bl (b 13), .bl (b 14)])) l4 = some (.lst [.bl (b 0), .bl (b 1), .bl (b 2), .bl (b 3), .bl (b 4), .bl (b 5), .bl (b 6), .bl (b 7), .bl (b 8), .bl (b 9), .bl (b 10), .bl (b 11), .bl (b 12), .bl (b 13), .bl (b 14)]) := upd_same
    generalize upd G4 l4 (.lst ([.bl (b 0), .bl (b 1), .bl (b 2), .bl (b 3), .bl (b 4), .bl (b 5), .bl (b 6), .bl (b 7), .bl (b 8), .bl (b 9), .bl (b 10), .bl (b 11)] ++ [.bl (b 12), .bl (b 13), .bl (b 14)])) = H4 at S4 h4
    exact k _ _ (none_back T4 hl4) h4 S4
end
end Ow

set_option Elab.async false
set_option linter.all false
set_option maxRecDepth 100000
set_option maxHeartbeats 8000000
namespace Ow
open PySem PySem.Spec PyProof.Rows L2 ErX
local macro_rules | `(tactic| walk_at "rd") => `(tactic| repeat (first | (refine ⟨_, rfl, ?_⟩) | (refine ⟨_, _, rfl, rfl, ?_⟩) | (refine ⟨rfl, ?_⟩) | (refine ⟨_, _, rfl, ?_⟩) | (refine Or.inl ⟨_, rfl, ?_⟩) | (refine ⟨(by first | (show (0 : Int) < (_ : Int); decide) | exact Or.inl ⟨by decide, by decide⟩ | exact Or.inr ⟨by decide, by decide⟩ | exact ⟨by decide, by decide⟩ | exact ⟨by decide, by decide, by decide⟩), ?_⟩)))
def refs (as : Nat → Addr) : List V := (List.range 15).map fun i => V.ref (as i)
def spMade (cs : Nat → Addr) : Sp := fun vs H Q _ => ∃ (n : Int) (x : Str), vs = [.int n, .str x] ∧ n.natAbs < 10 ^ 60 ∧ Sm x ∧
  ∀ (l lg mv t : Addr) (as : Nat → Addr) (fs : Nat → List (Str × V)) H', H l = none → H' l = some (.lst (refs as)) → (∀ i, i < 15 → EvX.EAt H' (as i) (cs i) (fs i)) →
    fs 3 = ([("what", .str x)] : List (Str × V)) → fs 5 = ([("half", .str x)] : List (Str × V)) → fs 9 = ([("row", .int n)] : List (Str × V)) → fs 14 = ([("moves", .ref mv), ("lengths", .ref lg), ("kind", .str x)] : List (Str × V)) →
    H' lg = some (.tup [.int n]) → H' t = some (.tup [.int n, .str x]) → H' mv = some (.tup [.ref t]) → Same H H' → Q (.ref l) H'
section
variable {P : Program} {w : World} {K : PySem.W.Frag} {mg : Str → Option Value} {base : Heap} {cs : Nat → Addr}
abbrev s_law_made : Stmt := top 23
theorem sc_law_made : FnScope ["count", "text", "made"] ["count", "text"] (defScope s_law_made) := ⟨rfl, rfl, rfl, by decide +kernel, rfl, by decide +kernel, by decide +kernel⟩
theorem ok_made {f : Addr} {fd : FuncData} (F : Fun K "_law_made" "_law_made" s_law_made f fd) (T : Txt mg) (M0 : ∀ base : Heap, EvX.ErV P w K mg base 2 "BadSymbol" (cs 0) ["symbol"] (EvX.spEw (cs 0) "symbol")) (M1 : ∀ base : Heap, EvX.ErV P w K mg base 2 "BadDomain" (cs 1) ["symbol"] (EvX.spEw (cs 1) "symbol")) (M2 : ∀ base : Heap, EvX.ErV P w K mg base 2 "BadFunction" (cs 2) ["row"] (EvX.spEw (cs 2) "row")) (M3 : ∀ base : Heap, EvX.ErV P w K mg base 2 "TooMany" (cs 3) ["what"] (EvX.spEw (cs 3) "what")) (M4 : ∀ base : Heap, EvX.ErV P w K mg base 2 "NotCut" (cs 4) ["row"] (EvX.spEw (cs 4) "row")) (M5 : ∀ base : Heap, EvX.ErV P w K mg base 2 "Amid" (cs 5) ["half"] (EvX.spEw (cs 5) "half")) (M6 : ∀ base : Heap, EvX.ErV P w K mg base 2 "Closed" (cs 6) ["number"] (EvX.spEw (cs 6) "number")) (M7 : ∀ base : Heap, EvX.ErV P w K mg base 2 "Starved" (cs 7) ["number"] (EvX.spEw (cs 7) "number")) (M8 : ∀ base : Heap, EvX.ErV P w K mg base 2 "Failed" (cs 8) ["row"] (EvX.spEw (cs 8) "row")) (M9 : ∀ base : Heap, EvX.ErV P w K mg base 2 "Cut" (cs 9) ["row"] (EvX.spEw (cs 9) "row")) (M10 : ∀ base : Heap, EvX.ErV P w K mg base 2 "BadDoor" (cs 10) ["word"] (EvX.spEw (cs 10) "word")) (M11 : ∀ base : Heap, EvX.ErV P w K mg base 2 "BadName" (cs 11) ["name"] (EvX.spEw (cs 11) "name")) (M12 : ∀ base : Heap, EvX.ErV P w K mg base 2 "NotLent" (cs 12) ["number"] (EvX.spEw (cs 12) "number")) (M13 : ∀ base : Heap, EvX.ErV P w K mg base 2 "BadMove" (cs 13) ["at"] (EvX.spEw (cs 13) "at")) (M14 : ∀ base : Heap, EvX.ErV P w K mg base 2 "Faulty" (cs 14) ["kind", "lengths", "moves"] (EvX.spE3 (cs 14) "kind" "lengths" "moves")) : FnOk P w K mg base CX0 4 f fd ["count", "text"] (spMade cs) := by
  refine F.ok sc_law_made (fun vs H Q E h => ?_) (fun cdv A outer s H vs Q E hr h => ?_)
  · obtain ⟨n, x, rfl, _⟩ := h
    rfl
  · obtain ⟨n, x, rfl, hn, hx, k⟩ := h
    have hu := hu_of hr
    have okx : EvX.OkW (.str x) := .inl ⟨x, rfl, hx⟩
    have okn : EvX.OkW (.int n) := .inr ⟨n, rfl, hn⟩
    have S0 : Same H H := fun _ _ e => e
    refine ⟨_, (pss_cons (ps_set (i := 2) sc_law_made.nd rfl (Or.inl rfl) (pe_lst (pa_cons (EvX.pe_mkV (M0 base) (hr.mono (by decide)) (pa_cons (pv 1) pa_nil)) (pa_cons (EvX.pe_mkV (M1 base) (hr.mono (by decide)) (pa_cons (pv 1) pa_nil)) (pa_cons (EvX.pe_mkV (M2 base) (hr.mono (by decide)) (pa_cons (pv 0) pa_nil)) (pa_cons (EvX.pe_mkV (M3 base) (hr.mono (by decide)) (pa_cons (pv 1) pa_nil)) (pa_cons (EvX.pe_mkV (M4 base) (hr.mono (by decide)) (pa_cons (pv 0) pa_nil)) (pa_cons (EvX.pe_mkV (M5 base) (hr.mono (by decide)) (pa_cons (pv 1) pa_nil)) pa_nil))))))))
      (pss_cons (ps_set (i := 2) sc_law_made.nd rfl (Or.inl rfl) (pe_op op_cat (pv 2) (pe_lst (pa_cons (EvX.pe_mkV (M6 base) (hr.mono (by decide)) (pa_cons (pv 0) pa_nil)) (pa_cons (EvX.pe_mkV (M7 base) (hr.mono (by decide)) (pa_cons (pv 0) pa_nil)) (pa_cons (EvX.pe_mkV (M8 base) (hr.mono (by decide)) (pa_cons (pv 0) pa_nil)) (pa_cons (EvX.pe_mkV (M9 base) (hr.mono (by decide)) (pa_cons (pv 0) pa_nil)) (pa_cons (EvX.pe_mkV (M10 base) (hr.mono (by decide)) (pa_cons (pv 1) pa_nil)) (pa_cons (EvX.pe_mkV (M11 base) (hr.mono (by decide)) (pa_cons (pv 1) pa_nil)) pa_nil)))))))))
      (pss_one (ps_ret (pe_op op_cat (pv 2) (pe_lst (pa_cons (EvX.pe_mkV (M12 base) (hr.mono (by decide)) (pa_cons (pv 0) pa_nil)) (pa_cons (EvX.pe_mkV (M13 base) (hr.mono (by decide)) (pa_cons (pv 0) pa_nil)) (pa_cons (EvX.pe_mkV (M14 base) (hr.mono (by decide)) (pa_cons (pv 1) (pa_cons (pe_tup (pa_cons (pv 0) pa_nil)) (pa_cons (pe_tup (pa_cons (pe_tup (pa_cons (pv 0) (pa_cons (pv 1) pa_nil))) pa_nil)) pa_nil)))) pa_nil))))))))), ?_⟩
    walk_at "rd"
    have SS := S0
    refine ⟨by show 1 ≤ 1000; decide, fun a0 n0 => ⟨a0, _, rfl, okx, upd_same, fun d G0 _ _ q1 q2 q3 => ⟨rfl, ?_⟩⟩⟩
    obtain ⟨e0, U0⟩ := EvX.e_new n0 q1 q2 q3
    clear q1 q2 q3
    have SS := same_trans SS U0
    clear U0
    walk_at "rd"
    refine ⟨by show 1 ≤ 1000; decide, fun a1 n1 => ⟨a1, _, rfl, okx, upd_same, fun d G1 _ _ q1 q2 q3 => ⟨rfl, ?_⟩⟩⟩
    obtain ⟨e1, U1⟩ := EvX.e_new n1 q1 q2 q3
    clear q1 q2 q3
    have e0 := e0.same U1
    have SS := same_trans SS U1
    clear U1
    walk_at "rd"
    refine ⟨by show 1 ≤ 1000; decide, fun a2 n2 => ⟨a2, _, rfl, okn, upd_same, fun d G2 _ _ q1 q2 q3 => ⟨rfl, ?_⟩⟩⟩
    obtain ⟨e2, U2⟩ := EvX.e_new n2 q1 q2 q3
    clear q1 q2 q3
    have e0 := e0.same U2
    have e1 := e1.same U2
    have SS := same_trans SS U2
    clear U2
    walk_at "rd"
    refine ⟨by show 1 ≤ 1000; decide, fun a3 n3 => ⟨a3, _, rfl, okx, upd_same, fun d G3 _ _ q1 q2 q3 => ⟨rfl, ?_⟩⟩⟩
    obtain ⟨e3, U3⟩ := EvX.e_new n3 q1 q2 q3
    clear q1 q2 q3
    have e0 := e0.same U3
    have e1 := e1.same U3
    have e2 := e2.same U3
    have SS := same_trans SS U3
    clear U3
    walk_at "rd"
    refine ⟨by show 1 ≤ 1000; decide, fun a4 n4 => ⟨a4, _, rfl, okn, upd_same, fun d G4 _ _ q1 q2 q3 => ⟨rfl, ?_⟩⟩⟩
    obtain ⟨e4, U4⟩ := EvX.e_new n4 q1 q2 q3
    clear q1 q2 q3
    have e0 := e0.same U4
    have e1 := e1.same U4
    have e2 := e2.same U4
    have e3 := e3.same U4
    have SS := same_trans SS U4
    clear U4
    walk_at "rd"
    refine ⟨by show 1 ≤ 1000; decide, fun a5 n5 => ⟨a5, _, rfl, okx, upd_same, fun d G5 _ _ q1 q2 q3 => ⟨rfl, ?_⟩⟩⟩
    obtain ⟨e5, U5⟩ := EvX.e_new n5 q1 q2 q3
    clear q1 q2 q3
    have e0 := e0.same U5
    have e1 := e1.same U5
    have e2 := e2.same U5
    have e3 := e3.same U5
    have e4 := e4.same U5
    have SS := same_trans SS U5
    clear U5
    walk_at "rd"
    refine ⟨by show 6 ≤ sizeLine; decide, fun l1 nl1 => ?_⟩
    obtain ⟨HH, hHH⟩ : ∃ HH, HH = upd G5 l1 (.lst [.ref a0, .ref a1, .ref a2, .ref a3, .ref a4, .ref a5]) := ⟨_, rfl⟩
    rw [← hHH]
    have U : Same G5 HH := by rw [hHH]; exact same_new (fun _ _ e => e) nl1
    have hl1 : HH l1 = some (.lst [.ref a0, .ref a1, .ref a2, .ref a3, .ref a4, .ref a5]) := by rw [hHH]; exact upd_same
    clear hHH
    have e0 := e0.same U
    have e1 := e1.same U
    have e2 := e2.same U
    have e3 := e3.same U
    have e4 := e4.same U
    have e5 := e5.same U
    have SS := same_trans SS U
    clear U
    walk_at "rd"
    refine ⟨by show 1 ≤ 1000; decide, fun a6 n6 => ⟨a6, _, rfl, okn, upd_same, fun d G6 _ _ q1 q2 q3 => ⟨rfl, ?_⟩⟩⟩
    obtain ⟨e6, U6⟩ := EvX.e_new n6 q1 q2 q3
    clear q1 q2 q3
    have e0 := e0.same U6
    have e1 := e1.same U6
    have e2 := e2.same U6
    have e3 := e3.same U6
    have e4 := e4.same U6
    have e5 := e5.same U6
    have hl1 := U6 _ _ hl1
    have SS := same_trans SS U6
    clear U6
    walk_at "rd"
    refine ⟨by show 1 ≤ 1000; decide, fun a7 n7 => ⟨a7, _, rfl, okn, upd_same, fun d G7 _ _ q1 q2 q3 => ⟨rfl, ?_⟩⟩⟩
    obtain ⟨e7, U7⟩ := EvX.e_new n7 q1 q2 q3
    clear q1 q2 q3
    have e0 := e0.same U7
    have e1 := e1.same U7
    have e2 := e2.same U7
    have e3 := e3.same U7
    have e4 := e4.same U7
    have e5 := e5.same U7
    have e6 := e6.same U7
    have hl1 := U7 _ _ hl1
    have SS := same_trans SS U7
    clear U7
    walk_at "rd"
    refine ⟨by show 1 ≤ 1000; decide, fun a8 n8 => ⟨a8, _, rfl, okn, upd_same, fun d G8 _ _ q1 q2 q3 => ⟨rfl, ?_⟩⟩⟩
    obtain ⟨e8, U8⟩ := EvX.e_new n8 q1 q2 q3
    clear q1 q2 q3
    have e0 := e0.same U8
    have e1 := e1.same U8
    have e2 := e2.same U8
    have e3 := e3.same U8
    have e4 := e4.same U8
    have e5 := e5.same U8
    have e6 := e6.same U8
    have e7 := e7.same U8
    have hl1 := U8 _ _ hl1
    have SS := same_trans SS U8
    clear U8
    walk_at "rd"
    refine ⟨by show 1 ≤ 1000; decide, fun a9 n9 => ⟨a9, _, rfl, okn, upd_same, fun d G9 _ _ q1 q2 q3 => ⟨rfl, ?_⟩⟩⟩
    obtain ⟨e9, U9⟩ := EvX.e_new n9 q1 q2 q3
    clear q1 q2 q3
    have e0 := e0.same U9
    have e1 := e1.same U9
    have e2 := e2.same U9
    have e3 := e3.same U9
    have e4 := e4.same U9
    have e5 := e5.same U9
    have e6 := e6.same U9
    have e7 := e7.same U9
    have e8 := e8.same U9
    have hl1 := U9 _ _ hl1
    have SS := same_trans SS U9
    clear U9
    walk_at "rd"
    refine ⟨by show 1 ≤ 1000; decide, fun a10 n10 => ⟨a10, _, rfl, okx, upd_same, fun d G10 _ _ q1 q2 q3 => ⟨rfl, ?_⟩⟩⟩
    obtain ⟨e10, U10⟩ := EvX.e_new n10 q1 q2 q3
    clear q1 q2 q3
    have e0 := e0.same U10
    have e1 := e1.same U10
    have e2 := e2.same U10
    have e3 := e3.same U10
    have e4 := e4.same U10
    have e5 := e5.same U10
    have e6 := e6.same U10
    have e7 := e7.same U10
    have e8 := e8.same U10
    have e9 := e9.same U10
    have hl1 := U10 _ _ hl1
    have SS := same_trans SS U10
    clear U10
    walk_at "rd"
    refine ⟨by show 1 ≤ 1000; decide, fun a11 n11 => ⟨a11, _, rfl, okx, upd_same, fun d G11 _ _ q1 q2 q3 => ⟨rfl, ?_⟩⟩⟩
    obtain ⟨e11, U11⟩ := EvX.e_new n11 q1 q2 q3
    clear q1 q2 q3
    have e0 := e0.same U11
    have e1 := e1.same U11
    have e2 := e2.same U11
    have e3 := e3.same U11
    have e4 := e4.same U11
    have e5 := e5.same U11
    have e6 := e6.same U11
    have e7 := e7.same U11
    have e8 := e8.same U11
    have e9 := e9.same U11
    have e10 := e10.same U11
    have hl1 := U11 _ _ hl1
    have SS := same_trans SS U11
    clear U11
    walk_at "rd"
    refine ⟨by show 6 ≤ sizeLine; decide, fun m1 nm1 => ?_⟩
    obtain ⟨HH, hHH⟩ : ∃ HH, HH = upd G11 m1 (.lst [.ref a6, .ref a7, .ref a8, .ref a9, .ref a10, .ref a11]) := ⟨_, rfl⟩
    rw [← hHH]
    have U : Same G11 HH := by rw [hHH]; exact same_new (fun _ _ e => e) nm1
    have hm1 : HH m1 = some (.lst [.ref a6, .ref a7, .ref a8, .ref a9, .ref a10, .ref a11]) := by rw [hHH]; exact upd_same
    clear hHH
    have e0 := e0.same U
    have e1 := e1.same U
    have e2 := e2.same U
    have e3 := e3.same U
    have e4 := e4.same U
    have e5 := e5.same U
    have e6 := e6.same U
    have e7 := e7.same U
    have e8 := e8.same U
    have e9 := e9.same U
    have e10 := e10.same U
    have e11 := e11.same U
    have hl1 := U _ _ hl1
    have SS := same_trans SS U
    clear U
    refine ⟨l1, m1, _, _, rfl, rfl, hl1, hm1, by show 12 ≤ sizeLine; decide, fun l2 nl2 => ?_⟩
    obtain ⟨HH2, hHH⟩ : ∃ HH2, HH2 = upd HH l2 (.lst [.ref a0, .ref a1, .ref a2, .ref a3, .ref a4, .ref a5, .ref a6, .ref a7, .ref a8, .ref a9, .ref a10, .ref a11]) := ⟨_, rfl⟩
    have U : Same HH HH2 := by rw [hHH]; exact same_new (fun _ _ e => e) nl2
    have hl2 : HH2 l2 = some (.lst [.ref a0, .ref a1, .ref a2, .ref a3, .ref a4, .ref a5, .ref a6, .ref a7, .ref a8, .ref a9, .ref a10, .ref a11]) := by rw [hHH]; exact upd_same
    replace hHH : HH2 = upd HH l2 (.lst ([.ref a0, .ref a1, .ref a2, .ref a3, .ref a4, .ref a5] ++ [.ref a6, .ref a7, .ref a8, .ref a9, .ref a10, .ref a11])) := hHH
    rw [← hHH]
    clear hHH
    have e0 := e0.same U
    have e1 := e1.same U
    have e2 := e2.same U
    have e3 := e3.same U
    have e4 := e4.same U
    have e5 := e5.same U
    have e6 := e6.same U
    have e7 := e7.same U
    have e8 := e8.same U
    have e9 := e9.same U
    have e10 := e10.same U
    have e11 := e11.same U
    have hl1 := U _ _ hl1
    have hm1 := U _ _ hm1
    have SS2 := SS
    have SS := same_trans SS U
    clear U
    walk_at "rd"
    refine ⟨by show 1 ≤ 1000; decide, fun a12 n12 => ⟨a12, _, rfl, okn, upd_same, fun d G12 _ _ q1 q2 q3 => ⟨rfl, ?_⟩⟩⟩
    obtain ⟨e12, U12⟩ := EvX.e_new n12 q1 q2 q3
    clear q1 q2 q3
    have e0 := e0.same U12
    have e1 := e1.same U12
    have e2 := e2.same U12
    have e3 := e3.same U12
    have e4 := e4.same U12
    have e5 := e5.same U12
    have e6 := e6.same U12
    have e7 := e7.same U12
    have e8 := e8.same U12
    have e9 := e9.same U12
    have e10 := e10.same U12
    have e11 := e11.same U12
    have hl1 := U12 _ _ hl1
    have hm1 := U12 _ _ hm1
    have hl2 := U12 _ _ hl2
    have SS := same_trans SS U12
    clear U12
    walk_at "rd"
    refine ⟨by show 1 ≤ 1000; decide, fun a13 n13 => ⟨a13, _, rfl, okn, upd_same, fun d G13 _ _ q1 q2 q3 => ⟨rfl, ?_⟩⟩⟩
    obtain ⟨e13, U13⟩ := EvX.e_new n13 q1 q2 q3
    clear q1 q2 q3
    have e0 := e0.same U13
    have e1 := e1.same U13
    have e2 := e2.same U13
    have e3 := e3.same U13
    have e4 := e4.same U13
    have e5 := e5.same U13
    have e6 := e6.same U13
    have e7 := e7.same U13
    have e8 := e8.same U13
    have e9 := e9.same U13
    have e10 := e10.same U13
    have e11 := e11.same U13
    have e12 := e12.same U13
    have hl1 := U13 _ _ hl1
    have hm1 := U13 _ _ hm1
    have hl2 := U13 _ _ hl2
    have SS := same_trans SS U13
    clear U13
    walk_at "rd"
    refine ⟨by show 1 ≤ sizeLine; decide, fun lg nlg => ?_⟩
    have U1 := same_new (o := .tup [.int n]) (fun a u (e : G13 a = some u) => e) nlg
    have hlg : upd G13 lg (.tup [.int n]) lg = some (.tup [.int n]) := upd_same
    generalize upd G13 lg (.tup [.int n]) = T1 at U1 hlg
    walk_at "rd"
    refine ⟨by show 2 ≤ sizeLine; decide, fun t nt => ?_⟩
    have U2 := same_new (o := .tup [.int n, .str x]) (fun a u (e : T1 a = some u) => e) nt
    have ht : upd T1 t (.tup [.int n, .str x]) t = some (.tup [.int n, .str x]) := upd_same
    generalize upd T1 t (.tup [.int n, .str x]) = T2 at U2 ht
    walk_at "rd"
    refine ⟨by show 1 ≤ sizeLine; decide, fun mv nmv => ?_⟩
    have U3 := same_new (o := .tup [.ref t]) (fun a u (e : T2 a = some u) => e) nmv
    have hmv : upd T2 mv (.tup [.ref t]) mv = some (.tup [.ref t]) := upd_same
    generalize upd T2 mv (.tup [.ref t]) = T3 at U3 hmv
    have ht := U3 _ _ ht
    have hlg := U3 _ _ (U2 _ _ hlg)
    have U := same_trans (same_trans U1 U2) U3
    clear U1 U2 U3
    have e0 := e0.same U
    have e1 := e1.same U
    have e2 := e2.same U
    have e3 := e3.same U
    have e4 := e4.same U
    have e5 := e5.same U
    have e6 := e6.same U
    have e7 := e7.same U
    have e8 := e8.same U
    have e9 := e9.same U
    have e10 := e10.same U
    have e11 := e11.same U
    have e12 := e12.same U
    have e13 := e13.same U
    have hl1 := U _ _ hl1
    have hm1 := U _ _ hm1
    have hl2 := U _ _ hl2
    have SS := same_trans SS U
    clear U
    walk_at "rd"
    refine ⟨by show 3 ≤ 1000; decide, fun a14 n14 => ⟨a14, _, _, _, rfl, okx, upd_same, fun d G14 _ _ q1 q2 q3 => ⟨rfl, ?_⟩⟩⟩
    obtain ⟨e14, U14⟩ := EvX.e_new n14 q1 q2 q3
    clear q1 q2 q3
    have e0 := e0.same U14
    have e1 := e1.same U14
    have e2 := e2.same U14
    have e3 := e3.same U14
    have e4 := e4.same U14
    have e5 := e5.same U14
    have e6 := e6.same U14
    have e7 := e7.same U14
    have e8 := e8.same U14
    have e9 := e9.same U14
    have e10 := e10.same U14
    have e11 := e11.same U14
    have e12 := e12.same U14
    have e13 := e13.same U14
    have hl1 := U14 _ _ hl1
    have hm1 := U14 _ _ hm1
    have hl2 := U14 _ _ hl2
    have ht := U14 _ _ ht
    have hlg := U14 _ _ hlg
    have hmv := U14 _ _ hmv
    have SS := same_trans SS U14
    clear U14
    walk_at "rd"
    refine ⟨by show 3 ≤ sizeLine; decide, fun m2 nm2 => ?_⟩
    obtain ⟨HH, hHH⟩ : ∃ HH, HH = upd G14 m2 (.lst [.ref a12, .ref a13, .ref a14]) := ⟨_, rfl⟩
    rw [← hHH]
    have U : Same G14 HH := by rw [hHH]; exact same_new (fun _ _ e => e) nm2
    have hm2 : HH m2 = some (.lst [.ref a12, .ref a13, .ref a14]) := by rw [hHH]; exact upd_same
    clear hHH
    have e0 := e0.same U
    have e1 := e1.same U
    have e2 := e2.same U
    have e3 := e3.same U
    have e4 := e4.same U
    have e5 := e5.same U
    have e6 := e6.same U
    have e7 := e7.same U
    have e8 := e8.same U
    have e9 := e9.same U
    have e10 := e10.same U
    have e11 := e11.same U
    have e12 := e12.same U
    have e13 := e13.same U
    have e14 := e14.same U
    have hl1 := U _ _ hl1
    have hm1 := U _ _ hm1
    have hl2 := U _ _ hl2
    have ht := U _ _ ht
    have hlg := U _ _ hlg
    have hmv := U _ _ hmv
    have SS := same_trans SS U
    clear U
    refine ⟨l2, m2, _, _, rfl, rfl, hl2, hm2, by show 15 ≤ sizeLine; decide, fun l3 nl3 => ?_⟩
    obtain ⟨HH2, hHH⟩ : ∃ HH2, HH2 = upd HH l3 (.lst [.ref a0, .ref a1, .ref a2, .ref a3, .ref a4, .ref a5, .ref a6, .ref a7, .ref a8, .ref a9, .ref a10, .ref a11, .ref a12, .ref a13, .ref a14]) := ⟨_, rfl⟩
    have U : Same HH HH2 := by rw [hHH]; exact same_new (fun _ _ e => e) nl3
    have hl3 : HH2 l3 = some (.lst [.ref a0, .ref a1, .ref a2, .ref a3, .ref a4, .ref a5, .ref a6, .ref a7, .ref a8, .ref a9, .ref a10, .ref a11, .ref a12, .ref a13, .ref a14]) := by rw [hHH]; exact upd_same
    replace hHH : HH2 = upd HH l3 (.lst ([.ref a0, .ref a1, .ref a2, .ref a3, .ref a4, .ref a5, .ref a6, .ref a7, .ref a8, .ref a9, .ref a10, .ref a11] ++ [.ref a12, .ref a13, .ref a14])) := hHH
    rw [← hHH]
    clear hHH
    have e0 := e0.same U
    have e1 := e1.same U
    have e2 := e2.same U
    have e3 := e3.same U
    have e4 := e4.same U
    have e5 := e5.same U
    have e6 := e6.same U
    have e7 := e7.same U
    have e8 := e8.same U
    have e9 := e9.same U
    have e10 := e10.same U
    have e11 := e11.same U
    have e12 := e12.same U
    have e13 := e13.same U
    have e14 := e14.same U
    have hl1 := U _ _ hl1
    have hm1 := U _ _ hm1
    have hl2 := U _ _ hl2
    have ht := U _ _ ht
    have hlg := U _ _ hlg
    have hmv := U _ _ hmv
    have hm2 := U _ _ hm2
    have SS2 := SS
    have SS := same_trans SS U
    clear U
    refine k l3 lg mv t (fun i => ([a0, a1, a2, a3, a4, a5, a6, a7, a8, a9, a10, a11, a12, a13, a14] : List Addr).getD i a0) (fun i => ([[("symbol", .str x)], [("symbol", .str x)], [("row", .int n)], [("what", .str x)], [("row", .int n)], [("half", .str x)], [("number", .int n)], [("number", .int n)], [("row", .int n)], [("row", .int n)], [("word", .str x)], [("name", .str x)], [("number", .int n)], [("at", .int n)], [("moves", .ref mv), ("lengths", .ref lg), ("kind", .str x)]] : List (List (Str × V))).getD i []) _ (none_back SS2 nl3) hl3 (fun i hi => ?_) rfl rfl rfl rfl hlg ht hmv SS
    match i, hi with
    | 0, _ => exact e0
    | 1, _ => exact e1
    | 2, _ => exact e2
    | 3, _ => exact e3
    | 4, _ => exact e4
    | 5, _ => exact e5
    | 6, _ => exact e6
    | 7, _ => exact e7
    | 8, _ => exact e8
    | 9, _ => exact e9
    | 10, _ => exact e10
    | 11, _ => exact e11
    | 12, _ => exact e12
    | 13, _ => exact e13
    | 14, _ => exact e14
end
end Ow

set_option Elab.async false
set_option linter.all false
set_option maxRecDepth 100000
set_option maxHeartbeats 1000000
namespace OpX
open PySem PySem.Spec PyProof.Rows L2
/-- no class of C's has the operator in place -/
structure NoI (K : PySem.W.Frag) (C : Addr) (op : Operator) : Prop where
  mro : ∃ cd, PySem.W.clsIn K C = some cd ∧ cd.mro = [.ref C, .type "object"]
  own : PySem.W.findIn K (.ref C) (PySem.dunderI op.info.2) = some none
  obj : PySem.W.findIn K (.type "object") (PySem.dunderI op.info.2) = some none
open PySem.W in
theorem no_fills {K : PySem.W.Frag} {C : Addr} {op : Operator} {M : Model} {h : Heap} {add : Bool} (N : NoI K C op) (KX : K.In h) : Looks M h (fillsInplaceSlot (.ref C) op.info.2 add) false := by
  intro A Q E s k q
  obtain ⟨cd, hcd, hm⟩ := N.mro
  have Lm : Looks M h (mroOf (.ref C)) cd.mro := (looks_clsIn KX hcd).andThen (f := fun cd => pure cd.mro) .now
  have Lm' := Lm.keeps k
  obtain ⟨hh, g, d, tt, os⟩ := s
  have X' : K.In hh := KX.keeps k
  have La : Looks M hh (typeLookup (.ref C) (dunderI op.info.2)) none := looks_findIn X' N.own
  have Lb : Looks M hh (typeLookup (.type "object") (dunderI op.info.2)) none := looks_findIn X' N.obj
  unfold fillsInplaceSlot
  refine wpAny_bind (Lm'.at ?_)
  rw [hm, List.anyM_cons, List.anyM_cons]
  refine wpAny_bind ?_
  repeat lk
  exact q
open PySem.W in
theorem one_own {K : PySem.W.Frag} {h0 : Heap} {Lx m} {prog : Program} {w : World} {A : Around} {E : Value → Shared → Prop} {s : Shared} {x C f : Addr} {ox od : Obj} {op : Operator} {b : Value} {Q : Value → Shared → Prop} (F : Fr h0 Lx s.heap m) (X₀ : K.In h0) (I : InstAt s.heap x ox C od) (O : OpC K C op f)
    (hb : typeOf b = pure (.type "int") ∨ Looks (model prog w) s.heap (typeOf b) (.ref C)) (h : wpAny (model prog w) A (call (.ref f) [.ref x, b]) (PySem.W.CmpBack Q) E s) :
    wpAny (model prog w) A (binaryOp1 op.info.2 (.ref x) b) (fun r s' => ∃ v, r = some v ∧ Q v s') E s := by
  have X := X₀.keeps F.keep
  obtain ⟨cd, rest, hcd, hm⟩ := ksp_first O.first
  have hs := O.at_
  obtain ⟨rc, hr, hp⟩ := O.rr
  obtain ⟨fo, h1⟩ := O.i1
  obtain ⟨ro, h2⟩ := O.i2
  have one := ksp_try X I hs O.fn h
  have fills := fills_K X hcd hm hs (M := model prog w)
  rcases hb with hb | hb
  · obtain ⟨hh, g, d, tt, os⟩ := s
    have l1 : Looks (model prog w) hh (typeOf (.ref x)) (.ref C) := I.type
    have l2 : Looks (model prog w) hh (typeOf b) (.type "int") := Looks.of_pure hb
    have l3 : Looks (model prog w) hh (fillsNumberSlot (.ref C) op.info.2) true := fills
    have l4 : Looks (model prog w) hh (fillsNumberSlot (.type "int") op.info.2) ((fo.isSome && !isSeqSlot fo) || (ro.isSome && !isSeqSlot ro)) := ksp_fillsT X h1 h2
    have l5 : Looks (model prog w) hh (isSubtype (.type "int") (.ref C)) false := looks_subIn X O.sub
    have l6 : Looks (model prog w) hh (numberSlotInPython (.ref C) op.info.2) true := ksp_inPy X hs hr hp
    have l7 : Looks (model prog w) hh (numberSlotInPython (.type "int") op.info.2) false := Looks.of_pure rfl
    have l8 : Looks (model prog w) hh (typeLookup (.type "int") (dunderR op.info.2)) ro := looks_findIn X h2
    generalize ((fo.isSome && !isSeqSlot fo) || (ro.isSome && !isSeqSlot ro)) = right at l4
    have hne : (Value.ref C == Value.type "int") = false := Bool.eq_false_iff.mpr fun q => by cases beq_iff_eq.mp q
    unfold binaryOp1
    refine wpAny_bind (l1.at (wpAny_bind (l2.at (wpAny_bind (l3.at ?_)))))
    simp only [hne, Bool.false_eq_true, if_false]
    cases right with
    | false =>
      ksp_lk
      refine wpAny_mono one (fun r s' hr' => ?_) fun _ _ e => e
      obtain ⟨v, rfl, hq⟩ := hr'
      ksp_lk
      exact ⟨v, rfl, hq⟩
    | true =>
      ksp_lk
      refine wpAny_mono one (fun r s' hr' => ?_) fun _ _ e => e
      obtain ⟨v, rfl, hq⟩ := hr'
      ksp_lk
      exact ⟨v, rfl, hq⟩
  · obtain ⟨hh, g, d, tt, os⟩ := s
    have l1 : Looks (model prog w) hh (typeOf (.ref x)) (.ref C) := I.type
    have l2 : Looks (model prog w) hh (typeOf b) (.ref C) := hb
    have l3 : Looks (model prog w) hh (fillsNumberSlot (.ref C) op.info.2) true := fills
    unfold binaryOp1
    refine wpAny_bind (l1.at (wpAny_bind (l2.at (wpAny_bind (l3.at ?_)))))
    simp only [beq_self_eq_true, if_true]
    ksp_lk
    refine wpAny_mono one (fun r s' hr' => ?_) fun _ _ e => e
    obtain ⟨v, rfl, hq⟩ := hr'
    ksp_lk
    exact ⟨v, rfl, hq⟩
section
variable {X : Cx} {CX : CXT} {k : Nat} {f C : Addr} {fd : FuncData} {ps : List Str} {sp : Sp} {E : XK}
/-- x op= y, x an instance without an operator in place -/
theorem op_iown {op : Operator} (O : OpC X.K C op f) (N : NoI X.K C op) (F : FnOk X.prog X.w X.K X.mg X.base CX k f fd ps sp) (hr : Room k X.A) (hb : Binds X.K fd ps []) (hx : Passes CX X E) : OpR X (inplaceOp op) (rOwn C sp E) := by
  intro pins s σ H x y u v Q I rx ry h
  obtain ⟨a, dx, fs, rfl, ha, hy, hsp⟩ := h
  obtain rfl : u = Value.ref a := rx
  obtain ⟨mA, J, _⟩ := ins_get I.hok ha
  obtain ⟨od, J, _⟩ := J.look
  obtain ⟨m, hF⟩ := I.fr
  have hcall : wpAny (model X.prog X.w) X.A (call (.ref f) [.ref a, v]) (PySem.W.CmpBack (EP X pins σ Q)) X.xe s := by
    refine thn (run_fn (Q := Q) (us := [.ref a, v]) (vs := [.ref a, y]) F hr hb .nil hx I (.cons rfl (.cons ry .nil)) (by rw [List.append_nil]; exact hsp)) fun w' s' hh => ?_
    obtain ⟨z, H', I', rz, q⟩ := hh
    exact back rz ⟨z, H', I', rz, q⟩
  have hty : typeOf v = pure (.type "int") ∨ PySem.W.Looks (model X.prog X.w) s.heap (typeOf v) (.ref C) := by
    rcases hy with ⟨i, rfl⟩ | ⟨b, dy, gs, rfl, hb'⟩
    · obtain ⟨t, rfl⟩ := (show ∃ t, v = Value.int i t from ry)
      exact .inl rfl
    · obtain rfl : v = Value.ref b := ry
      obtain ⟨mB, J', _⟩ := ins_get I.hok hb'
      obtain ⟨od', J', _⟩ := J'.look
      exact .inr J'.type
  have one := one_own hF I.ok.mod.kin J O hty hcall
  have l1 : PySem.W.Looks (model X.prog X.w) s.heap (typeOf (.ref a)) (.ref C) := J.type
  have l2 : PySem.W.Looks (model X.prog X.w) s.heap (fillsInplaceSlot (.ref C) op.info.2 (op == .Add)) false := no_fills N I.kIn
  unfold inplaceOp
  refine wpAny_holding ?_
  obtain ⟨hh, g, d, tt, os⟩ := s
  refine wpAny_bind (l1.at (wpAny_bind (l2.at ?_)))
  simp only [Bool.false_eq_true, if_false]
  refine wpAny_bind (wpAny_mono one (fun r s' hr' => ?_) fun _ _ e => e)
  obtain ⟨v, rfl, hq⟩ := hr'
  exact wpAny_pure hq
end
end OpX

set_option Elab.async false
set_option linter.all false
set_option maxRecDepth 100000
set_option maxHeartbeats 1000000
namespace Ow
open PySem PySem.Spec PyProof.Rows L2
section
variable {X : Cx} {k : Nat} {sp : Sp} {C : Addr}
structure CalI (P : Program) (w : World) (K : PySem.W.Frag) (mg : Str → Option Value) (base : Heap) (C : Addr) (op : Operator) (k : Nat) (sp : Sp) : Prop where
  ex : ∃ (f : Addr) (fd : FuncData) (ps : List Str), OpX.OpC K C op f ∧ OpX.NoI K C op ∧ FnOk P w K mg base CX0 k f fd ps sp ∧ Binds K fd ps []
theorem op_calI {op : Operator} (c : CalI X.prog X.w X.K X.mg X.base C op k sp) (hr : Room k X.A) : PIp X op (OpX.rOwn C sp E0) := by
  obtain ⟨f, fd, ps, O, N, F, hb⟩ := c.ex
  exact OpX.op_iown O N F hr hb pass0
end
theorem wr_nilK {L : Ps} {g : Str → Int} {c k : Int} (c1 : Can L g) (h : ∀ s, g s = 0) (ec : c = k) : PyData.eqv (datW c L) (.tuple [.int k, .tuple []]) = true := by
  rw [can_nil c1 h, ec]
  show ((k == k) && (PyData.eqvAll [] [] && true)) = true
  rw [beq_self_eq_true]
  rfl
theorem co_bound {B : Nat} : ∀ {ps : Ps}, (∀ q ∈ ps, q.2.natAbs ≤ B) → ∀ s, (co ps s).natAbs ≤ ps.length * B
  | [], _, _ => Nat.zero_le _
  | q :: ps, h, s => by
    have h1 := co_bound (fun r hr => h r (List.mem_cons_of_mem _ hr)) s
    have h2 := h q List.mem_cons_self
    show ((if q.1 = s then q.2 else 0) + co ps s).natAbs ≤ (ps.length + 1) * B
    have h3 := Int.natAbs_add_le (if q.1 = s then q.2 else 0) (co ps s)
    have h4 : (if q.1 = s then q.2 else 0).natAbs ≤ B := by
      by_cases e : q.1 = s
      · rw [if_pos e]
        exact h2
      · rw [if_neg e]
        exact Nat.zero_le _
    rw [Nat.add_mul, Nat.one_mul]
    omega
theorem log_small {n : Nat} (h : n < 2 ^ 400) : n.log2 ≤ 400 := by
  rcases Nat.eq_zero_or_pos n with z | z
  · rw [z]
    decide
  · exact Nat.le_of_lt ((Nat.log2_lt (Nat.pos_iff_ne_zero.mp z)).mpr h)
theorem MulOk.small {i j : Int} (hi : i.natAbs < 2 ^ 400) (hj : j.natAbs < 2 ^ 400) : MulOk i j := by
  have h1 := log_small hi
  have h2 := log_small hj
  exact .inr (show i.natAbs.log2 + j.natAbs.log2 < 1000000 by omega)
theorem MulOk.left {i j : Int} (hi : -(2 ^ 64) < i ∧ i < 2 ^ 64) : MulOk i j := .inl (.inl hi)
theorem MulOk.right {i j : Int} (hj : -(2 ^ 64) < j ∧ j < 2 ^ 64) : MulOk i j := .inl (.inr hj)
/-- a form's own coefficients are those of what it was made of -/
theorem form_mem {m ps : Ps} (nd : (m.map (·.1)).Nodup) (h : ∀ s, co m s = co ps s) {q : Str × Int} (hq : q ∈ m) : q.2 = co ps q.1 := by
  rw [← h, co_in nd hq]
end Ow

set_option Elab.async false
set_option linter.all false
set_option maxRecDepth 100000
set_option maxHeartbeats 1000000
namespace OpX
open PySem PySem.Spec PyProof.Rows L2
/-- a method that an instance's own syntax reaches: o[i], o(x), .. -/
structure CalG (P : Program) (w : World) (K : PySem.W.Frag) (mg : Str → Option Value) (base : Heap) (C : Addr) (m : Str) (k : Nat) (sp : Sp) : Prop where
  ex : ∃ (f : Addr) (fd : FuncData) (ps : List Str), PySem.W.findIn K (.ref C) m = some (some (.ref f)) ∧ PySem.W.isFn K (.ref f) = true ∧ PySem.W.fnIn K f = true ∧ FnOk P w K mg base CX0 k f fd ps sp ∧ Binds K fd ps []
section
variable {X : Cx} {k : Nat} {sp : Sp} {C : Addr} {o i e : Expr} {to ti te : TE} {pos : Pos}
theorem run_code {CX : CXT} {f : Addr} {fd : FuncData} {ps : List Str} {E : XK} {pins : List (Addr × Obj)} {σ : L2.St} {H : Hp} {s : Shared} {Q : VK} {us : List Value} {vs : List V} (F : FnOk X.prog X.w X.K X.mg X.base CX k f fd ps sp) (hr : Room k X.A) (hb : Binds X.K fd ps [])
    (hx : Passes CX X E) (I : Inv X pins σ H s) (r : Vals vs us) (h : sp vs H Q E) : codeAny (model X.prog X.w) X.A (.call (.ref f) ⟨us, []⟩) (wants (EP X pins σ Q) X.xe) s := by
  have hl : us.length = ps.length := by rw [← r.length]; exact F.len _ _ _ _ h
  have hb' := hb s us I.kIn (by rw [List.append_nil]; exact hl)
  rw [List.append_nil] at hb'
  refine codeAny_mono (F.run X.A X.stack s H ⟨us, []⟩ us vs Q E hr I.env0 hb' r h) fun r s' hq => ?_
  cases r with
  | error e => exact hx pins σ H s e s' I hq
  | ok fl =>
    cases fl with
    | ret u => exact I.after hq
    | next => exact False.elim hq
    | brk => exact False.elim hq
    | cont => exact False.elim hq
/-- .. run one builtin deeper -/
theorem run_in1 {CX : CXT} {f : Addr} {fd : FuncData} {ps : List Str} {E : XK} {pins : List (Addr × Obj)} {σ : L2.St} {H : Hp} {s : Shared} {Q : VK} {us : List Value} {vs : List V} (F : FnOk X.prog X.w X.K X.mg X.base CX k f fd ps sp) (hr : Room (k + 1) X.A) (hb : Binds X.K fd ps [])
    (hx : Passes CX X E) (I : Inv X pins σ H s) (r : Vals vs us) (h : sp vs H Q E) : wpAny (model X.prog X.w) X.A.in1 (call (.ref f) us) (EP X pins σ Q) X.xe s := by
  have hl : us.length = ps.length := by rw [← r.length]; exact F.len _ _ _ _ h
  have hb' := hb s us I.kIn (by rw [List.append_nil]; exact hl)
  rw [List.append_nil] at hb'
  refine wpAny_call (codeAny_mono (F.run X.A.in1 X.stack s H ⟨us, []⟩ us vs Q E hr.in1 I.env0.in1 hb' r h) fun r s' hq => ?_)
  cases r with
  | error e => exact hx pins σ H s e s' I hq
  | ok fl =>
    cases fl with
    | ret u => exact I.after hq
    | next => exact False.elim hq
    | brk => exact False.elim hq
    | cont => exact False.elim hq
def tGetC (C : Addr) (sp : Sp) (to ti : TE) : TE := fun σ H Q => to σ H fun x H1 => ti σ H1 fun y H2 => ∃ a dx fs, x = .ref a ∧ H2 a = some (.ins C dx fs) ∧ sp [x, y] H2 Q E0
theorem pe_getC (c : CalG X.prog X.w X.K X.mg X.base C "__getitem__" k sp) (hr : Room (k + 1) X.A) (ho : PE X o to) (hi : PE X i ti)
    (hsl : ∀ a y, subscripted i true (.ref a) y = runValue (.builtin "lifetime.subscript" ⟨[.ref a, y], []⟩) := by intro _ _; with_unfolding_all rfl) : PE X (.Subscript o i pos) (tGetC C sp to ti) := by
  obtain ⟨f, fd, ps, hs, hf, hfn, F, hb⟩ := c.ex
  refine ⟨fun pins s σ H Q I h => ?_⟩
  refine Subscript_ (thn (ho.run pins s σ H _ I h) fun v s1 ⟨x, H1, I1, rx, q1⟩ => thn (hi.run pins s1 σ H1 _ I1 q1) fun u s2 ⟨y, H2, I2, ry, a, dx, fs, ex, ea, q2⟩ => ?_)
  subst ex
  obtain rfl : v = Value.ref a := rx
  obtain ⟨mA, J, _⟩ := ins_get I2.hok ea
  obtain ⟨od, J, _⟩ := J.look
  obtain ⟨m, hF⟩ := I2.fr
  exact PySem.W.sub_K hF I2.ok.mod.kin J hs hfn hf (run_in1 (vs := [.ref a, y]) F hr hb pass0 I2 (.cons rfl (.cons ry .nil)) q2) (hsl a u)
theorem callWith_inst {M : Model} {A : Around} {E : Value → Shared → Prop} {s : Shared} {x : Addr} {first : List Value} {Q : Value → Shared → Prop} {args : List (Bool × Sem Value)} (hp : (args.any (·.1) || ([] : List (Option Str × Sem Value)).any (·.1.isNone)) = false)
    (h : wpAny M A (evalArgs (.ref x) true args []) (fun a s1 => (∃ ox, s1.heap.get? x = some ox ∧ ox.data = .plain) ∧ wpAny M A (call (.ref x) (first ++ a.pos) a.kw) Q E s1) E s) : wpAny M A (callWith pos (.ref x) first args []) Q E s := by
  unfold callWith
  refine wpAny_bind (wpAny_holding (wpAny_mono h (fun a s1 h1 => wpAny_bind (wpAny_standAt ?_)) fun _ _ y => y))
  obtain ⟨⟨ox, e1, e2⟩, hc⟩ := h1
  have kp : PySem.W.Looks M s1.heap (keeperOf (.ref x)) .caller := by
    refine (PySem.W.Looks.ld (part := none) e1).andThen ?_
    simp only [e2]
    exact .now
  simp only [hp]
  refine wpAny_bind (kp.here ?_)
  exact wpAny_bind (wpAny_mono (wpAny_operateT hc) (fun r s2 hr => wpAny_bind (wpAny_holding (wpAny_point (wpAny_pure hr)))) fun _ _ y => y)
def tCallC (C : Addr) (sp : Sp) (to : TE) (t : TA) : TE := fun σ H Q => to σ H fun x H1 => ∃ a dx fs, x = .ref a ∧ H1 a = some (.ins C dx fs) ∧ t σ H1 fun vs H2 => ∃ dx' fs', H2 a = some (.ins C dx' fs') ∧ sp (x :: vs) H2 Q E0
theorem pe_callC {es : List Expr} {t : TA} (c : CalG X.prog X.w X.K X.mg X.base C "__call__" k sp) (hr : Room k X.A) (ho : PE X o to) (ha : PA X (e :: es) t) (hst : starEach (e :: es) X.env = (false, eval e X.env) :: starEach es X.env := by rfl) (hpl : (backTo pos (starEach es X.env)).any (·.1) = false := by rfl)
    (hc : eval (.Call o (e :: es) [] pos) X.env = (do
      let f ← eval o X.env
      callWith pos f [] (backTo pos (starEach (e :: es) X.env)) (backToKw pos (keywordEach [] X.env))) := by rfl) :
    PE X (.Call o (e :: es) [] pos) (tCallC C sp to t) := by
  obtain ⟨f, fd, ps, hs, hf, hfn, F, hb⟩ := c.ex
  refine ⟨fun pins s σ H Q I h => ?_⟩
  refine Call_ (thn (ho.run pins s σ H _ I h) fun v s1 ⟨x, H1, I1, rx, a, dx, fs, ex, ea, q1⟩ => ?_) hc
  subst ex
  obtain rfl : v = Value.ref a := rx
  obtain ⟨mA, J, _⟩ := ins_get I1.hok ea
  obtain ⟨od, J, _⟩ := J.look
  refine callWith_inst (by rw [hst]; show ((false || (backTo pos (starEach es X.env)).any (·.1)) || false) = false; rw [hpl]; rfl) ?_
  have go := ha.run pos pins s1 σ H1 _ I1 q1
  rw [hst] at go ⊢
  refine Calls.evalArgs_plain (thn go fun us s2 ⟨vs, H2, I2, rv, dx', fs', ea', q2⟩ => ?_)
  obtain ⟨mA', J', _⟩ := ins_get I2.hok ea'
  have hat := J'.obj
  obtain ⟨od', J', _⟩ := J'.look
  refine ⟨⟨_, hat, rfl⟩, wpAny_call (PySem.W.kco_code (a := ⟨us, []⟩) I2.kIn J' rfl hs hf hfn ?_)⟩
  exact run_code F hr hb pass0 I2 (us := .ref a :: us) (vs := .ref a :: vs) (.cons rfl rv) q2
end
end OpX

set_option Elab.async false
set_option linter.all false
set_option maxRecDepth 100000
set_option maxHeartbeats 1000000
namespace Ow
open PySem PySem.Spec PyProof.Rows L2
/-! ### the value of a list of pairs -/
def ev : Ps → (Str → Int) → Int
  | [], _ => 0
  | (x, n) :: r, v => n * v x + ev r v
def offs (a : Ps) (x : Str) : Ps := a.filter fun q => decide (q.1 ≠ x)
theorem offs_cons_eq (q : Str × Int) (a : Ps) (x : Str) (e : q.1 = x) : offs (q :: a) x = offs a x := by
  unfold offs
  rw [List.filter_cons, if_neg (by simp [e])]
theorem offs_cons_ne (q : Str × Int) (a : Ps) (x : Str) (e : q.1 ≠ x) : offs (q :: a) x = q :: offs a x := by
  unfold offs
  rw [List.filter_cons, if_pos (by simp [e])]
theorem ev_app (v : Str → Int) : ∀ a b : Ps, ev (a ++ b) v = ev a v + ev b v
  | [], b => (Int.zero_add _).symm
  | (x, n) :: a, b => by
    show n * v x + ev (a ++ b) v = n * v x + ev a v + ev b v
    rw [ev_app v a b, Int.add_assoc]
theorem ev_mul (v : Str → Int) (k : Int) : ∀ a : Ps, ev (a.map fun q => (q.1, k * q.2)) v = k * ev a v
  | [] => (Int.mul_zero k).symm
  | (x, n) :: a => by
    show k * n * v x + ev (a.map fun q => (q.1, k * q.2)) v = k * (n * v x + ev a v)
    rw [ev_mul v k a, Int.mul_add, Int.mul_assoc]
theorem ev_split (v : Str → Int) (x : Str) : ∀ a : Ps, ev a v = co a x * v x + ev (offs a x) v
  | [] => by
    show (0 : Int) = 0 * v x + 0
    omega
  | (y, n) :: a => by
    have ih := ev_split v x a
    show n * v y + ev a v = ((if y = x then n else 0) + co a x) * v x + ev (offs ((y, n) :: a) x) v
    rw [ih, Int.add_mul]
    by_cases e : y = x
    · rw [offs_cons_eq (y, n) a x e, if_pos e, e]
      omega
    · rw [offs_cons_ne (y, n) a x e, if_neg e, Int.zero_mul]
      show _ = 0 + co a x * v x + (n * v y + ev (offs a x) v)
      omega
theorem co_offs (x s : Str) : ∀ a : Ps, co (offs a x) s = if s = x then 0 else co a s
  | [] => by
    show (0 : Int) = _
    split <;> rfl
  | (y, n) :: a => by
    have ih := co_offs x s a
    show _ = if s = x then 0 else (if y = s then n else 0) + co a s
    by_cases e : y = x
    · rw [offs_cons_eq (y, n) a x e, ih]
      by_cases e2 : s = x
      · rw [if_pos e2, if_pos e2]
      · rw [if_neg e2, if_neg e2, if_neg (fun z : y = s => e2 (z.symm.trans e)), Int.zero_add]
    · rw [offs_cons_ne (y, n) a x e]
      show (if y = s then n else 0) + co (offs a x) s = _
      rw [ih]
      by_cases e2 : s = x
      · rw [if_pos e2, if_pos e2, if_neg (fun z => e (z.trans e2))]
        rfl
      · rw [if_neg e2, if_neg e2]
theorem ev_zero (v : Str → Int) : ∀ (n : Nat) (a : Ps), a.length ≤ n → (∀ s, co a s = 0) → ev a v = 0
  | _, [], _, _ => rfl
  | 0, _ :: _, h, _ => absurd h (by simp)
  | n + 1, (x, k) :: a, h, z => by
    rw [ev_split v x ((x, k) :: a), z x, Int.zero_mul, Int.zero_add, offs_cons_eq (x, k) a x rfl]
    refine ev_zero v n _ (Nat.le_trans (List.length_filter_le _ _) (by simpa using h)) fun s => ?_
    rw [co_offs]
    by_cases e : s = x
    · rw [if_pos e]
    · rw [if_neg e]
      have := z s
      show co a s = 0
      have e3 : co ((x, k) :: a) s = (if x = s then k else 0) + co a s := rfl
      rw [e3, if_neg (fun q => e q.symm), Int.zero_add] at this
      exact this
theorem ev_co {a b : Ps} (v : Str → Int) (h : ∀ s, co a s = co b s) : ev a v = ev b v := by
  have z := ev_zero v _ (a ++ b.map fun q => (q.1, -1 * q.2)) (Nat.le_refl _) fun s => by
    rw [co_append, co_mulL, h s]
    omega
  rw [ev_app, ev_mul] at z
  omega
theorem ev_congr {v v' : Str → Int} : ∀ {a : Ps}, (∀ q ∈ a, v q.1 = v' q.1) → ev a v = ev a v'
  | [], _ => rfl
  | (x, n) :: a, h => by
    show n * v x + ev a v = n * v' x + ev a v'
    rw [h (x, n) List.mem_cons_self, ev_congr fun q hq => h q (List.mem_cons_of_mem _ hq)]
theorem ev_snoc (v : Str → Int) (a : Ps) (q : Str × Int) : ev (a ++ [q]) v = ev a v + q.2 * v q.1 := by
  rw [ev_app]
  show ev a v + (q.2 * v q.1 + 0) = _
  omega
theorem ev_sum (v : Str → Int) : ∀ a : Ps, (a.map fun q => q.2 * v q.1).sum = ev a v
  | [] => rfl
  | (x, n) :: a => by
    rw [List.map_cons, List.sum_cons, ev_sum v a]
    rfl
/-- a coefficient changed at x -/
theorem ev_at {a : Ps} {v : Str → Int} {x : Str} {z : Int} : ev a (fun s => if s = x then z else v s) = co a x * z + ev (offs a x) v := by
  rw [ev_split _ x a]
  show co a x * (if x = x then z else v x) + _ = _
  rw [if_pos rfl]
  congr 1
  refine ev_congr fun q hq => ?_
  have := of_decide_eq_true (List.mem_filter.mp hq).2
  show (if q.1 = x then z else v q.1) = v q.1
  rw [if_neg this]
theorem offs_snoc (a : Ps) (q : Str × Int) (x : Str) : offs (a ++ [q]) x = offs a x ++ if q.1 = x then [] else [q] := by
  unfold offs
  rw [List.filter_append]
  congr 1
  by_cases e : q.1 = x
  · rw [if_pos e]
    simp [e]
  · rw [if_neg e]
    simp [e]
theorem ix_tupK {X : Cx} {K : PySem.W.Frag} (hK : X.K = K) : IxR X (rIxT K) := by
  subst hK
  exact ix_tup
def spGet (C : Addr) : Sp := fun vs H Q _ => ∃ (p : Addr) (c : Int) (m : Ps) (x : Str), vs = [.ref p, .str x] ∧ FormAt C H p c m ∧ Q (.int (co m x)) H
def spCall (C : Addr) : Sp := fun vs H Q _ => ∃ (p d : Addr) (c : Int) (m M : Ps), vs = [.ref p, .ref d] ∧ FormAt C H p c m ∧ DictAt H d M ∧ m.length < 64 ∧ (∀ s, MulOk (co m s) (co M s)) ∧ ∀ H', Same H H' → Q (.int (c + ev m (co M))) H'
def spPut (C : Addr) : Sp := fun vs H Q _ => ∃ (p o : Addr) (c c2 : Int) (m m2 : Ps) (x : Str), vs = [.ref p, .str x, .ref o] ∧ FormAt C H p c m ∧ FormAt C H o c2 m2 ∧ m.length < 15 ∧ m2.length < 15 ∧ MulOk c2 (co m x) ∧ (∀ q ∈ m2, MulOk q.2 (co m x)) ∧
  OutF C H Q (c + c2 * co m x) (fun s => (if s = x then 0 else co m s) + co m2 s * co m x) (m.length + m2.length)
def spValues : Sp := fun vs H Q _ => ∃ (b l : Addr) (n : Nat) (ys : List Str), vs = [.ref b, .ref l] ∧ BagAt H b n ∧ n < 700000000 ∧ H l = some (.lst (ys.map V.str)) ∧ l ≠ b ∧ (∀ y ∈ ys, isSym y = true) ∧ ys.length < 64 ∧
  ∀ d M H', H d = none → d ≠ b → DictAt H' d M → M.length < 80 → (∀ q ∈ M, q.2.natAbs ≤ 10 ^ 25) → BagAt H' b (n + 2000) → Stay b H H' → Q (.ref d) H'
def spValue : Sp := fun vs H Q _ => ∃ (c : Int) (a d : Addr) (m M : Ps), vs = [.int c, .ref a, .ref d] ∧ a ≠ d ∧ DictAt H a m ∧ DictAt H d M ∧ (∀ s, MulOk (co m s) (co M s)) ∧ ∀ H', Same H H' → Q (.int (c + ev m (co M))) H'
end Ow
namespace Ow
open PySem PySem.Spec PyProof.Rows L2
theorem putS_vals {s : Str} {v : Int} : ∀ {m : Ps}, ∀ q ∈ putS m s v, q ∈ m ∨ q.2 = v
  | [], q, hq => by
    cases List.mem_singleton.mp hq
    exact .inr rfl
  | (x, u) :: r, q, hq => by
    unfold putS at hq
    by_cases e : x = s
    · rw [if_pos e] at hq
      rcases List.mem_cons.mp hq with rfl | hq
      · exact .inr rfl
      · exact .inl (List.mem_cons_of_mem _ hq)
    · rw [if_neg e] at hq
      rcases List.mem_cons.mp hq with rfl | hq
      · exact .inl List.mem_cons_self
      · rcases putS_vals q hq with h | h
        · exact .inl (List.mem_cons_of_mem _ h)
        · exact .inr h
theorem kvI_none : ∀ {m : Ps} {s : Str}, s ∉ m.map (·.1) → valV (kvI m) (Sum.inr s) = none
  | [], _, _ => rfl
  | (x, v) :: m, s, h => by
    have h1 : ¬ x = s := fun e => h (by simp [e])
    have h2 := kvI_none (m := m) (s := s) fun e => h (by rw [List.map_cons]; exact List.mem_cons_of_mem _ e)
    unfold valV kvI at h2 ⊢
    rw [List.map_cons]
    simp [h1]
    simpa using h2
theorem kvI_getD (m : Ps) (s : Str) (z : Int) (nd : (m.map (·.1)).Nodup) : ∃ u : Int, (valV (kvI m) (Sum.inr s)).getD (V.int z) = V.int u ∧ (u = z ∨ (s, u) ∈ m) := by
  by_cases h : s ∈ m.map (·.1)
  · obtain ⟨q, hq, rfl⟩ := List.mem_map.mp h
    refine ⟨co m q.1, by rw [kvI_get nd h]; rfl, .inr ?_⟩
    rw [co_in nd hq]
    exact hq
  · exact ⟨z, by rw [kvI_none h]; rfl, .inl rfl⟩
theorem DictAt.stay {H H' : Hp} {b d : Addr} {m : Ps} (h : DictAt H d m) (s : Stay b H H') (ne : d ≠ b) : DictAt H' d m := ⟨s _ _ ne h.at_, h.nd, h.sym⟩
end Ow
namespace Ow
open PySem PySem.Spec PyProof.Rows L2
theorem seq_cutS {a b : TS} {D : Ends} {σ : L2.St} {H : Hp} (R : L2.St → Hp → Prop) (fin : ∀ σ' H', R σ' H' → b D σ' H') (main : (∀ σ' H', R σ' H' → b D σ' H') → tSeq a b D σ H) : tSeq a b D σ H := main fin
theorem ne_ref {H : Hp} {a b : Addr} {o : HO} (h : H a = some o) (n : H b = none) : a ≠ b := fun z => by rw [z, n] at h; cases h
theorem offs_nd {m : Ps} (x : Str) (h : (m.map (·.1)).Nodup) : ((offs m x).map (·.1)).Nodup := h.sublist (List.filter_sublist.map _)
theorem offs_take {m : Ps} {i : Nat} {x : Str} {q : Str × Int} (h : m[i]? = some q) : offs (m.take (i + 1)) x = offs (m.take i) x ++ if q.1 = x then [] else [q] := by
  rw [take_snoc h, offs_snoc]
theorem offs_len (m : Ps) (x : Str) : (offs m x).length ≤ m.length := List.length_filter_le _ _
end Ow
namespace Ow
open PySem PySem.Spec PyProof.Rows L2
theorem co_mem_bound {m : Ps} {B : Nat} (nd : (m.map (·.1)).Nodup) (h : ∀ q ∈ m, q.2.natAbs ≤ B) (s : Str) : (co m s).natAbs ≤ B := by
  by_cases e : s ∈ m.map (·.1)
  · obtain ⟨q, hq, rfl⟩ := List.mem_map.mp e
    rw [co_in nd hq]
    exact h q hq
  · rw [co_out e]
    exact Nat.zero_le _
theorem ev_bound {v : Str → Int} {A B : Nat} (hv : ∀ s, (v s).natAbs ≤ B) : ∀ {m : Ps}, (∀ q ∈ m, q.2.natAbs ≤ A) → (ev m v).natAbs ≤ m.length * (A * B)
  | [], _ => Nat.zero_le _
  | (x, n) :: m, h => by
    have h1 := ev_bound hv (m := m) fun q hq => h q (List.mem_cons_of_mem _ hq)
    have h2 : (n * v x).natAbs ≤ A * B := by
      rw [Int.natAbs_mul]
      exact Nat.mul_le_mul (h (x, n) List.mem_cons_self) (hv x)
    have h3 := Int.natAbs_add_le (n * v x) (ev m v)
    show (n * v x + ev m v).natAbs ≤ (m.length + 1) * (A * B)
    rw [Nat.add_mul, Nat.one_mul]
    omega
theorem put_value {M1 M2 mT I : Ps} {V : Str → Int} {x : Str} {n1 n2 zz : Int} (hT : ∀ s, co mT s = (if s = x then 0 else co M1 s) + co M2 s * co M1 x) (hI : ∀ s, co I s = if s = x then zz else V s) (hz : zz = n2 + ev M2 V) :
    n1 + n2 * co M1 x + ev mT V = n1 + ev M1 (co I) := by
  have e1 : ev M1 (co I) = co M1 x * zz + ev (offs M1 x) V := by
    rw [show co I = fun s => if s = x then zz else V s from funext hI]
    exact ev_at
  have e2 : ev mT V = ev (offs M1 x) V + co M1 x * ev M2 V := by
    rw [← ev_mul, ← ev_app]
    refine ev_co V fun s => ?_
    rw [hT, co_append, co_mulL, co_offs, Int.mul_comm (co M2 s)]
  rw [e1, e2, hz, Int.mul_add, Int.mul_comm n2]
  omega
theorem mul_bound {a b : Int} {A B : Nat} (ha : a.natAbs ≤ A) (hb : b.natAbs ≤ B) : (a * b).natAbs ≤ A * B := by
  rw [Int.natAbs_mul]
  exact Nat.mul_le_mul ha hb
end Ow

set_option Elab.async false
set_option linter.all false
set_option maxRecDepth 100000
set_option maxHeartbeats 1000000
namespace OpX
open PySem PySem.Spec PyProof.Rows L2
/-- what may stand at the right of == of an instance of C -/
def EqY (C : Addr) (H : Hp) (y : V) : Prop := (∃ i, y = .int i) ∨ (∃ z, y = .str z) ∨ (∃ a dx fs, y = .ref a ∧ H a = some (.ins C dx fs)) ∨ ∃ a xs, y = .ref a ∧ H a = some (.tup xs)
structure EqC (K : PySem.W.Frag) (C : Addr) (f : Addr) : Prop where
  at_ : PySem.W.findIn K (.ref C) "__eq__" = some (some (.ref f))
  fn : PySem.W.isFn K (.ref f) = true
  nI : PySem.W.subIn K (.type "int") (.ref C) = some false
  nS : PySem.W.subIn K (.type "str") (.ref C) = some false
  nT : PySem.W.subIn K (.type "tuple") (.ref C) = some false
structure CalE (P : Program) (w : World) (K : PySem.W.Frag) (mg : Str → Option Value) (base : Heap) (C : Addr) (k : Nat) (sp : Sp) : Prop where
  ex : ∃ (f : Addr) (fd : FuncData) (ps : List Str), EqC K C f ∧ FnOk P w K mg base CX0 k f fd ps sp ∧ Binds K fd ps []
def rEqC (C : Addr) (sp : Sp) : R2 := fun x y H Q => ∃ a dx fs, x = .ref a ∧ H a = some (.ins C dx fs) ∧ EqY C H y ∧ sp [x, y] H Q E0
section
variable {X : Cx} {k : Nat} {sp : Sp} {C : Addr}
theorem eqY_ty {pins : List (Addr × Obj)} {σ : L2.St} {H : Hp} {s : Shared} {f : Addr} {y : V} {v : Value} (O : EqC X.K C f) (I : Inv X pins σ H s) (ry : RelV y v) (h : EqY C H y) :
    ∃ tb, PySem.W.Looks (model X.prog X.w) s.heap (typeOf v) tb ∧ PySem.W.notFirst X.K C tb = true := by
  rcases h with ⟨i, rfl⟩ | ⟨z, rfl⟩ | ⟨a, dx, fs, rfl, ha⟩ | ⟨a, xs, rfl, ha⟩
  · obtain ⟨t, rfl⟩ := (show ∃ t, v = Value.int i t from ry)
    exact ⟨.type "int", PySem.W.Looks.of_pure rfl, by unfold PySem.W.notFirst; rw [O.nI]; simp⟩
  · obtain ⟨t, rfl⟩ := (show ∃ t, v = Value.str z t from ry)
    exact ⟨.type "str", PySem.W.Looks.of_pure rfl, by unfold PySem.W.notFirst; rw [O.nS]; simp⟩
  · obtain rfl : v = Value.ref a := ry
    obtain ⟨mB, J, _⟩ := ins_get I.hok ha
    obtain ⟨od, J, _⟩ := J.look
    exact ⟨.ref C, J.type, by unfold PySem.W.notFirst; simp⟩
  · obtain rfl : v = Value.ref a := ry
    obtain ⟨its, rv, ⟨o, ho, hc, n, hd⟩, _⟩ := I.tuple (SqT.of ha)
    refine ⟨.type "tuple", ?_, by unfold PySem.W.notFirst; rw [O.nT]; simp⟩
    have := (PySem.W.Looks.ld (M := model X.prog X.w) (part := none) ho).andThen (f := fun o => pure o.cls) .now
    rw [hc] at this
    exact this
theorem op_eqC (c : CalE X.prog X.w X.K X.mg X.base C k sp) (hr : Room k X.A) : OpR X (compareOp .Eq) (rEqC C sp) := by
  intro pins s σ H x y v u Q I rx ry h
  obtain ⟨f, fd, ps, O, F, hb⟩ := c.ex
  obtain ⟨a, dx, fs, rfl, ha, hy, hsp⟩ := h
  obtain rfl : v = Value.ref a := rx
  obtain ⟨mA, J, _⟩ := ins_get I.hok ha
  obtain ⟨od, J, _⟩ := J.look
  obtain ⟨m, hF⟩ := I.fr
  obtain ⟨tb, ht, hn⟩ := eqY_ty O I ry hy
  show wpAny (model X.prog X.w) X.A (richCompare .Eq (.ref a) u) (EP X pins σ Q) X.xe s
  refine PySem.W.cmp_K (op := .Eq) (tb := tb) hr.units0 hF I.ok.mod.kin J ht hn O.at_ O.fn ?_
  refine thn (run_fn (Q := Q) (us := [.ref a, u]) (vs := [.ref a, y]) F hr hb .nil pass0 I (.cons rfl (.cons ry .nil)) (by rw [List.append_nil]; exact hsp)) fun w' s' hh => ?_
  obtain ⟨z, H', I', rz, q⟩ := hh
  exact back rz ⟨z, H', I', rz, q⟩
end
end OpX

set_option Elab.async false
set_option linter.all false
set_option maxRecDepth 100000
set_option maxHeartbeats 1000000
namespace OpX
open PySem PySem.Spec PyProof.Rows L2
/-- what != of an instance without an own __ne__ needs beside its __eq__ -/
structure NeC (K : PySem.W.Frag) (C : Addr) : Prop where
  at_ : PySem.W.findIn K (.ref C) "__ne__" = some (some (.builtin "object.__ne__"))
  obj : PySem.W.mroIn K C (.type "object") = some true
section
variable {prog : Program} {w : World} {A : Around} {E : Value → Shared → Prop} {s : Shared} {K : PySem.W.Frag} {x C f : Addr} {ox od : Obj} {b : Value}
open Builtin in
theorem ne_body (KX : K.In s.heap) (I : PySem.W.InstAt s.heap x ox C od) (O : EqC K C f) (hu : A.units < cLine) {Q : Fin → Shared → Prop}
    (h : wpAny (model prog w) A (call (.ref f) [.ref x, b]) (fun v s' => ∃ r, v = .bool r ∧ Q (.done (.ret (.bool (!r)))) s') E s) :
    wpAny (model prog w) A (Builtin.«object.__ne__» ⟨[.ref x, b], []⟩) Q E s := by
  have one : wpAny (model prog w) A (callSpecialIfBound? (.ref x) (Str.ofString "__eq__") [b]) (fun v s' => ∃ r, v = some (.bool r) ∧ Q (.done (.ret (.bool (!r)))) s') E s :=
    PySem.W.ifBound_K KX I O.at_ O.fn (wpAny_mono h (fun v s' hv => by
      obtain ⟨r, rfl, q⟩ := hv
      exact ⟨r, rfl, q⟩) fun _ _ e => e)
  unfold Builtin.«object.__ne__»
  obtain ⟨hh, g, d, tt, os⟩ := s
  repeat (first
    | with_reducible refine wpAny_cRoomFor hu ?_
    | (refine wpAny_bind (m := callSpecialIfBound? (.ref x) (Str.ofString "__eq__") [b]) (wpAny_mono one (fun r s' hr => by
        obtain ⟨r, rfl, hq⟩ := hr
        repeat (first | exact hq | exact wpAny_pure hq | exact wpAny_truthy_bool hq | (refine wpAny_bind (m := truthy (.bool _)) (wpAny_truthy_bool ?_)) | wp_step)) fun _ _ e => e))
    | wp_step)
theorem ne_check (KX : K.In s.heap) (I : PySem.W.InstAt s.heap x ox C od) (N : NeC K C) {Q : Unit → Shared → Prop} (hq : Q () s) : wpAny (model prog w) A (checkBuiltinCall "object.__ne__" ⟨[.ref x, b], []⟩) Q E s := by
  have ha := F.cmpArgs_ne (.ref x) b
  simp only [checkBuiltinCall, F.cmpKind_ne, F.cmpSplit_ne]
  obtain ⟨hh, g, d, tt, os⟩ := s
  have l1 : PySem.W.Looks (model prog w) hh (typeOf (.ref x)) (.ref C) := I.type
  have l2 : PySem.W.Looks (model prog w) hh (isSubtype (.ref C) (.type "object")) true := PySem.W.looks_mroIn KX N.obj
  refine wpAny_bind ?_
  unfold isInstance
  refine wpAny_bind (l1.at (l2.at ?_))
  simp only [Bool.not_true, Bool.false_eq_true, if_false]
  cases hsig : Manifest.signature? "object.__ne__" with
  | none => exact wpAny_pure hq
  | some sig =>
    simp only [argsOk, hsig] at ha
    have h2 : Bind.checkArgs "object.__ne__" sig ⟨[.ref x, b], []⟩ = pure () := ha
    show wpAny _ A (Bind.checkArgs "object.__ne__" sig ⟨[.ref x, b], []⟩) Q E _
    rw [h2]
    exact wpAny_pure hq
open PySem.W in
/-- the look for __ne__ ends at object's -/
theorem ne_bound {M : Model} {Q : Option Value → Shared → Prop} (KX : K.In s.heap) (I : InstAt s.heap x ox C od) (N : NeC K C) (h : wpAny M A (call (.builtin "object.__ne__") [.ref x, b]) (fun v => Q (some v)) E s) : wpAny M A (callSpecialIfBound? (.ref x) "__ne__" [b]) Q E s := by
  have S := F.slot_zip_ne
  simp only [callSpecialIfBound?, bindSpecialIfBound?]
  refine wpAny_holding (wpAny_bind (wpAny_bind (wpAny_bind (I.type.here ((looks_findIn KX N.at_).here ?_)))))
  simp only [S.bind]
  refine wpAny_bind (wpAny_askSetting (wpAny_ite ?_))
  have fin : wpAny M A (call (.builtin "object.__ne__") ([.ref x] ++ [b]) >>= fun v => pure (some v)) Q E s := wpAny_bind (wpAny_mono h (fun v s' h' => wpAny_pure h') fun _ _ h' => h')
  split
  · exact wpAny_bind (wpAny_pure (wpAny_pure fin))
  · exact wpAny_tryCatch (wpAny_bind (wpAny_pure (wpAny_pure fin)))
end
section
variable {X : Cx} {k : Nat} {sp : Sp} {C : Addr}
def rNeC (C : Addr) (sp : Sp) : R2 := fun x y H Q => ∃ a dx fs, x = .ref a ∧ H a = some (.ins C dx fs) ∧ EqY C H y ∧ sp [x, y] H (fun v H' => ∃ r, v = .bl r ∧ Q (.bl (!r)) H') E0
theorem op_neC (c : CalE X.prog X.w X.K X.mg X.base C k sp) (N : NeC X.K C) (hr : Room (k + 1) X.A) : OpR X (compareOp .NotEq) (rNeC C sp) := by
  intro pins s σ H x y v u Q I rx ry h
  obtain ⟨f, fd, ps, O, F, hb⟩ := c.ex
  obtain ⟨a, dx, fs, rfl, ha, hy, hsp⟩ := h
  obtain rfl : v = Value.ref a := rx
  obtain ⟨mA, J, _⟩ := ins_get I.hok ha
  obtain ⟨od, J, _⟩ := J.look
  obtain ⟨tb, ht, hn⟩ := eqY_ty O I ry hy
  show wpAny (model X.prog X.w) X.A (richCompare .NotEq (.ref a) u) (EP X pins σ Q) X.xe s
  have call1 : wpAny (model X.prog X.w) X.A.in1 (call (.ref f) [.ref a, u]) (fun v s' => ∃ r, v = .bool r ∧ EP X pins σ Q (.bool (!r)) s') X.xe s := by
    refine thn (run_in1 (us := [.ref a, u]) (vs := [.ref a, y]) F hr hb pass0 I (.cons rfl (.cons ry .nil)) hsp) fun w' s' hh => ?_
    obtain ⟨z, H', I', rz, r, rfl, q⟩ := hh
    cases rz
    exact ⟨r, rfl, .bl (!r), H', I', rfl, q⟩
  have one : wpAny (model X.prog X.w) X.A (tryCompare (.ref a) "__ne__" u) (fun r s' => ∃ v, r = some v ∧ EP X pins σ Q v s') X.xe s := by
    unfold tryCompare
    refine wpAny_bind (ne_bound I.kIn J N (wpAny_call (codeAny_call_builtin PySem.F.slot_zip_ne.plain PySem.F.cmpEntry_ne (ne_check I.kIn J N ?_))))
    refine ne_body (A := X.A.in1) I.kIn J O (by have := hr.un; show X.A.units + 1 < _; omega) (wpAny_mono call1 (fun v s' hv => ?_) fun _ _ e => e)
    obtain ⟨r, rfl, q⟩ := hv
    refine ⟨r, rfl, ?_⟩
    first
    | exact wpAny_pure ⟨_, rfl, q⟩
    | exact ⟨_, rfl, q⟩
  unfold richCompare
  simp only [PySem.oneThing_ref]
  refine wpAny_holding (wpAny_bind (wpAny_cRoomFor hr.units0 ?_))
  refine wpAny_bind (J.type.here (wpAny_bind (ht.here ?_)))
  split
  · rename_i q
    have e : PySem.W.subIn X.K tb (.ref C) = some false := by
      rcases Bool.or_eq_true_iff.mp hn with e | e
      · rw [beq_iff_eq.mp e] at q
        simp at q
      · exact beq_iff_eq.mp e
    refine wpAny_bind ((PySem.W.looks_subIn I.kIn e).here ?_)
    simp only [Bool.false_eq_true, if_false]
    refine wpAny_bind (wpAny_mono one (fun r s' z => ?_) fun _ _ e => e)
    obtain ⟨v, rfl, hq⟩ := z
    exact wpAny_pure hq
  · refine wpAny_bind (wpAny_pure ?_)
    simp only [Bool.false_eq_true, if_false]
    refine wpAny_bind (wpAny_mono one (fun r s' z => ?_) fun _ _ e => e)
    obtain ⟨v, rfl, hq⟩ := z
    exact wpAny_pure hq
end
end OpX

set_option Elab.async false
set_option linter.all false
set_option maxRecDepth 100000
set_option maxHeartbeats 1000000
namespace OpX
open PySem PySem.Spec PyProof.Rows L2
section
variable {X : Cx} {k : Nat} {sp : Sp} {C : Addr} {o i e : Expr} {to ti te : TE} {pos : Pos}
/-- .. run two builtins deeper -/
theorem run_in2 {CX : CXT} {f : Addr} {fd : FuncData} {ps : List Str} {E : XK} {pins : List (Addr × Obj)} {σ : L2.St} {H : Hp} {s : Shared} {Q : VK} {us : List Value} {vs : List V} (F : FnOk X.prog X.w X.K X.mg X.base CX k f fd ps sp) (hr : Room (k + 1 + 1) X.A) (hb : Binds X.K fd ps [])
    (hx : Passes CX X E) (I : Inv X pins σ H s) (r : Vals vs us) (h : sp vs H Q E) : wpAny (model X.prog X.w) X.A.in1.in1 (call (.ref f) us) (EP X pins σ Q) X.xe s := by
  have hl : us.length = ps.length := by rw [← r.length]; exact F.len _ _ _ _ h
  have hb' := hb s us I.kIn (by rw [List.append_nil]; exact hl)
  rw [List.append_nil] at hb'
  refine wpAny_call (codeAny_mono (F.run X.A.in1.in1 X.stack s H ⟨us, []⟩ us vs Q E hr.in1.in1 I.env0.in1.in1 hb' r h) fun r s' hq => ?_)
  cases r with
  | error e => exact hx pins σ H s e s' I hq
  | ok fl =>
    cases fl with
    | ret u => exact I.after hq
    | next => exact False.elim hq
    | brk => exact False.elim hq
    | cont => exact False.elim hq
/-- str(o) of a class with an own __str__ -/
theorem call_strC (c : CalG X.prog X.w X.K X.mg X.base C "__str__" k sp) (hr : Room (k + 1 + 1) X.A) : CallR X (.type "str") (fun xs H Q => ∃ a dx fs, xs = [.ref a] ∧ H a = some (.ins C dx fs) ∧ sp [.ref a] H (fun v H' => ∃ z, v = .str z ∧ Q v H') E0) := by
  intro pins s σ H xs us Q I r h
  obtain ⟨f, fd, ps, hs, hf, hfn, F, hb⟩ := c.ex
  obtain ⟨a, dx, fs, rfl, ha, hsp⟩ := h
  obtain ⟨u, rfl, rx⟩ := vals1 r
  obtain rfl : u = Value.ref a := rx
  obtain ⟨mA, J, _⟩ := ins_get I.hok ha
  obtain ⟨od, J, _⟩ := J.look
  refine PySem.W.kso_call (hr.in1.in1.units0) I.kIn J hs hf (thn (run_in2 F hr hb pass0 I (us := [.ref a]) (vs := [.ref a]) (.cons rfl .nil) hsp) fun v s' z => ?_)
  obtain ⟨x, H', I', rx, zz, rfl, q⟩ := z
  obtain ⟨t, rfl⟩ := (show ∃ t, v = Value.str zz t from rx)
  exact ⟨.str zz, H', I', ⟨t, rfl⟩, q⟩
/-- xs[::-1] of a list -/
def tRevL (K : PySem.W.Frag) (te : TE) (tk : TO) : TE := fun σ H Q => te σ H fun x H1 => tk σ H1 fun l H2 => l = some (-1) ∧ ∃ a xs, x = .ref a ∧ SqL K H2 a xs ∧ ∀ p, H2 p = none → Q (.ref p) (upd H2 p (.lst xs.reverse))
theorem pe_rev {st : Option Expr} {tk : TO} {p2 : Pos} (he : PE X e te) (hk : PO X st tk) (hs : ∀ a sl, subscripted (.Slice none none st p2) false (.ref a) (.ref sl) = operate [.ref a, .ref sl] (getItem (.ref a) (.ref sl)) := by intro _ _; with_unfolding_all rfl) : PE X (.Subscript e (.Slice none none st p2) pos) (tRevL X.K te tk) := by
  refine ⟨fun pins s σ H Q I h => ?_⟩
  refine Subscript_ (thn (he.run pins s σ H _ I h) fun v s1 ⟨x, H1, I1, r1, q1⟩ => ?_)
  refine wpAny_Slice ?_
  rw [evalPart_none]
  refine wpAny_pure (wpAny_pure ?_)
  refine thn (hk.run pins s1 σ H1 _ I1 q1) fun vk s2 ⟨l, H2, I2, pk, el, a, xs, ex, hx, q2⟩ => ?_
  subst el ex
  obtain rfl : v = Value.ref a := r1
  have I4 : Inv X pins σ H2 { s2 with heap := s2.heap.push { cls := .type "slice", data := .fields #[.none, .none, vk] } } := I2.kept (t' := s2.toks) fun b ob q => Heap.get?_push_of_some _ q
  obtain ⟨its, r, ht, hz⟩ := I4.list hx
  refine tail_any (ops := [.ref a, .ref s2.heap.objs.size]) ht.isList.typeIs slot_list_getitem.lookup ?_ (hs _ _)
  refine wpAny_getItem_list_slice ht.isList (Heap.IsSliceOf.new ..) .none .none pk (by simp) ?_ (by rw [List.size_toArray]; have := r.length; omega)
  rw [PySem.W.krv_pick]
  refine ⟨.ref _, _, I4.laid (t' := s2.toks) (o := .lst xs.reverse) (fun b ob q => Heap.get?_push_of_some _ q) (Nat.le_refl _) ?_, rfl, q2 _ (I4.hok.fresh (Nat.le_refl _))⟩
  refine ⟨by rw [List.length_reverse]; exact hz, _, 0, r.reverse, Heap.get?_push_size _ rfl⟩
end
end OpX

set_option Elab.async false
set_option linter.all false
set_option maxRecDepth 100000
set_option maxHeartbeats 1000000
namespace OpX
open PySem PySem.Spec PyProof.Rows L2
/-- int == an instance: int's own says NotImplemented -/
theorem int_eq_inst {prog : Program} {w : World} {A : Around} {E : Value → Shared → Prop} {s : Shared} {i : Int} {t : Tok} {b : Addr} {ob : Obj} {Q : Value → Shared → Prop} (h1 : s.heap.get? b = some ob) (h2 : ob.data = .plain) (hq : Q .notImplemented s) :
    wpAny (model prog w) A (call (.builtin "int.__eq__") [.int i t, .ref b]) Q E s := by
  refine GQ.call_here F.slot_int_eq rfl F.entry_int_eq (F.args_int_eq_2 _ _) ?_
  show wpAny _ _ (Builtin.Int.intBinary "__eq__" (fun x y => PySem.ret (.bool (x == y))) false ⟨[.int i t, .ref b], []⟩) _ _ _
  unfold Builtin.Int.intBinary
  refine wpAny_bind (wpAny_of_eq (a := (Value.int i t, [Value.ref b])) (by first | rfl | kernel_rfl) ?_)
  refine wpAny_bind (wpAny_of_eq (a := i) (by first | rfl | kernel_rfl) ?_)
  refine wpAny_bind (asInt_inst h1 h2 ?_)
  exact wpAny_bind (wpAny_rule (wpAny_pure hq))
section
variable {X : Cx} {k : Nat} {sp : Sp} {C : Addr}
def rEqRev (C : Addr) (sp : Sp) : R2 := fun x y H Q => ∃ i a dx fs, x = .int i ∧ y = .ref a ∧ H a = some (.ins C dx fs) ∧ sp [y, x] H Q E0
open PySem.W in
theorem op_eqRev (c : CalE X.prog X.w X.K X.mg X.base C k sp) (sb : PySem.W.subIn X.K (.ref C) (.type "int") = some false) (hr : Room k X.A) : OpR X (compareOp .Eq) (rEqRev C sp) := by
  intro pins s σ H x y v u Q I rx ry h
  obtain ⟨f, fd, ps, O, F, hb⟩ := c.ex
  obtain ⟨i, a, dx, fs, rfl, rfl, ha, hsp⟩ := h
  obtain rfl : u = Value.ref a := ry
  obtain ⟨t, rfl⟩ := (show ∃ t, v = Value.int i t from rx)
  obtain ⟨mA, J, _⟩ := ins_get I.hok ha
  have hat := J.obj
  obtain ⟨od, J, _⟩ := J.look
  have KX := I.kIn
  have hcall : wpAny (model X.prog X.w) X.A (call (.ref f) [.ref a, .int i t]) (PySem.W.CmpBack (EP X pins σ Q)) X.xe s := by
    refine thn (run_fn (Q := Q) (us := [.ref a, .int i t]) (vs := [.ref a, .int i]) F hr hb .nil pass0 I (.cons rfl (.cons rx .nil)) (by rw [List.append_nil]; exact hsp)) fun w' s' hh => ?_
    obtain ⟨z, H', I', rz, q⟩ := hh
    exact back rz ⟨z, H', I', rz, q⟩
  have one : wpAny (model X.prog X.w) X.A (tryCompare (.ref a) (cmpInfo .Eq).2.1 (.int i t)) (fun r s' => ∃ v, r = some v ∧ EP X pins σ Q v s') X.xe s := by
    unfold tryCompare
    refine wpAny_bind (ifBound_K KX J O.at_ O.fn (wpAny_mono hcall (fun v s' hv => ?_) fun _ _ e => e))
    cases v <;> first | exact hv.elim | exact wpAny_pure ⟨_, rfl, hv⟩
  have first : ∀ {Q' : Option Value → Shared → Prop}, Q' none s → wpAny (model X.prog X.w) X.A (tryCompare (.int i t) (cmpInfo .Eq).2.1 (.ref a)) Q' X.xe s := fun {Q'} q => by
    unfold tryCompare
    refine wpAny_bind (wpAny_callSpecialIfBound?_slot (T := "int") rfl PySem.F.slot_int_eq ?_)
    exact int_eq_inst hat rfl (wpAny_pure q)
  show wpAny (model X.prog X.w) X.A (richCompare .Eq (.int i t) (.ref a)) (EP X pins σ Q) X.xe s
  unfold richCompare
  refine wpAny_holding (wpAny_bind (wpAny_cRoomFor hr.units0 ?_))
  have L1 : Looks (model X.prog X.w) s.heap (typeOf (.ref a)) (.ref C) := J.type
  have L5 : Looks (model X.prog X.w) s.heap (isSubtype (.ref C) (.type "int")) false := looks_subIn KX sb
  have L0 : Looks (model X.prog X.w) s.heap (typeOf (.int i t)) (.type "int") := Looks.of_pure rfl
  have hne0 : (Value.type "int" == Value.ref C) = false := Bool.eq_false_iff.mpr fun q => by cases beq_iff_eq.mp q
  have hne : (Value.type "int" != Value.ref C) = true := by
    show (!(Value.type "int" == Value.ref C)) = true
    rw [hne0]
    rfl
  show wpAny _ _ (typeOf (.int i t) >>= fun ta => _) _ _ _
  refine wpAny_bind (L0.here (wpAny_bind (L1.here ?_)))
  rw [hne]
  simp only [if_true]
  refine wpAny_bind (L5.here ?_)
  simp only [Bool.false_eq_true, if_false]
  refine wpAny_bind (first ?_)
  dsimp only
  refine wpAny_bind (wpAny_mono one (fun r s' z => ?_) fun _ _ e => e)
  obtain ⟨v, rfl, hq⟩ := z
  exact wpAny_pure hq
end
/-- dicts of texts and ints compared -/
def rEqDI : R2 := fun x y H Q => ∃ a b m m2, x = .ref a ∧ y = .ref b ∧ H a = some (.dK (Ow.kvI m)) ∧ H b = some (.dK (Ow.kvI m2)) ∧ ∀ r : Bool, (r = true ↔ m.length = m2.length ∧ ∀ q ∈ m, valV (Ow.kvI m2) (Sum.inr q.1) = some (.int q.2)) → Q (.bl r) H
theorem kvI_int {k : Key} {v : V} : ∀ {m : Ow.Ps}, valV (Ow.kvI m) k = some v → ∃ i, v = .int i
  | [], h => by cases h
  | (x, n) :: m, h => by
    have h : valV (((Sum.inr x : Key), V.int n) :: Ow.kvI m) k = some v := h
    by_cases e : (Sum.inr x : Key) = k
    · rw [valV_pos e] at h
      cases h
      exact ⟨n, rfl⟩
    · rw [valV_neg e] at h
      exact kvI_int h
theorem hits_int {A : Around} {s : Shared} {m2 : Ow.Ps} {vb : List (Key × Value)} (rb : KV (Ow.kvI m2) vb) : ∀ {m : Ow.Ps} {va : List (Key × Value)}, KV (Ow.kvI m) va → ∃ r, PySem.W.KeqHits A s vb va r ∧ (r = true ↔ ∀ q ∈ m, valV (Ow.kvI m2) (Sum.inr q.1) = some (.int q.2))
  | [], va, ra => by
    cases ra
    exact ⟨true, .nil, by simp⟩
  | (x, n) :: m, va, ra => by
    have ra' : Paired (fun (p : Key × V) (q : Key × Value) => p.1 = q.1 ∧ RelV p.2 q.2) ((Sum.inr x, V.int n) :: Ow.kvI m) va := ra
    cases ra' with
    | @cons _ q _ qs h t =>
      obtain ⟨k, v⟩ := q
      obtain ⟨h1, h2⟩ := h
      obtain rfl : (Sum.inr x : Key) = k := h1
      obtain ⟨tt, rfl⟩ := (show ∃ tt, v = Value.int n tt from h2)
      obtain ⟨r, hr, hiff⟩ := hits_int (A := A) (s := s) rb (m := m) (va := qs) t
      have rr := rb.val (Sum.inr x)
      cases e : valV (Ow.kvI m2) (Sum.inr x) with
      | none =>
        rw [e] at rr
        refine ⟨false, .miss (by cases q : valueAt vb (Sum.inr x) with | none => rfl | some y => rw [q] at rr; exact rr.elim), ?_⟩
        constructor
        · intro z
          cases z
        · intro z
          have := z (x, n) List.mem_cons_self
          rw [e] at this
          cases this
      | some v2 =>
        obtain ⟨n2, rfl⟩ := kvI_int e
        rw [e] at rr
        obtain ⟨y, hy, ry⟩ := rr.some_of
        obtain ⟨t2, rfl⟩ := (show ∃ t2, y = Value.int n2 t2 from ry)
        refine ⟨(n == n2) && r, .hit hy (SeqAt.EqAt.int_int n tt n2 t2) hr, ?_⟩
        rw [Bool.and_eq_true, beq_iff_eq, hiff]
        constructor
        · rintro ⟨z1, z2⟩ q hq
          rcases List.mem_cons.mp hq with rfl | hq
          · rw [e, z1]
          · exact z2 q hq
        · intro z
          refine ⟨?_, fun q hq => z q (List.mem_cons_of_mem _ hq)⟩
          have := z (x, n) List.mem_cons_self
          rw [e] at this
          injection this with this
          injection this with this
          exact this.symm
theorem op_eq_dictI {X : Cx} (hu : X.A.units < cLine) : OpR X (compareOp .Eq) rEqDI := by
  intro pins s σ H x y v u Q I rx ry h
  obtain ⟨a, b, m, m2, rfl, rfl, ea, eb, q⟩ := h
  obtain rfl : v = Value.ref a := rx
  obtain rfl : u = Value.ref b := ry
  obtain ⟨_, ya, va, ra, da⟩ := (show ObjOk X.prog X.w H s.heap a (.dK (Ow.kvI m)) from I.hok a _ ea)
  obtain ⟨_, yb, vb, rb, db⟩ := (show ObjOk X.prog X.w H s.heap b (.dK (Ow.kvI m2)) from I.hok b _ eb)
  obtain ⟨r, hr, hiff⟩ := hits_int (A := X.A.in1) (s := s) rb ra
  have la : va.length = m.length := by rw [← ra.length, Ow.kvI_len]
  have lb : vb.length = m2.length := by rw [← rb.length, Ow.kvI_len]
  refine PySem.W.keq_eq (knd := mixKind X.prog X.w) (r := r) ya yb da db hu (fun _ => hr) (fin_bl I (q (decide (m.length = m2.length) && r) ?_) (by rw [la, lb]; rfl))
  rw [Bool.and_eq_true, decide_eq_true_iff, hiff]
end OpX

set_option Elab.async false
set_option linter.all false
set_option maxRecDepth 100000
set_option maxHeartbeats 1000000
namespace OpX
open PySem PySem.Spec PyProof.Rows L2
section
variable {X : Cx} {k : Nat} {sp : Sp} {C : Addr}
/-- x in o, by o's own __contains__ that answers True or False -/
def rInC (neg : Bool) (C : Addr) (sp : Sp) : R2 := fun x y H Q => ∃ a dx fs, y = .ref a ∧ H a = some (.ins C dx fs) ∧ sp [y, x] H (fun v H' => ∃ r, v = .bl r ∧ Q (.bl (if neg then !r else r)) H') E0
theorem run_inC {neg : Bool} (c : CalG X.prog X.w X.K X.mg X.base C "__contains__" k sp) (hr : Room k X.A) {pins : List (Addr × Obj)} {σ : L2.St} {H : Hp} {s : Shared} {Q : VK} {x : V} {u : Value} {a dx : Addr} {fs : List (Str × V)} (I : Inv X pins σ H s) (rx : RelV x u) (ha : H a = some (.ins C dx fs))
    (h : sp [.ref a, x] H (fun v H' => ∃ r, v = .bl r ∧ Q (.bl (if neg then !r else r)) H') E0) (f : Addr) (fd : FuncData) (ps : List Str) (F : FnOk X.prog X.w X.K X.mg X.base CX0 k f fd ps sp) (hb : Binds X.K fd ps []) :
    wpAny (model X.prog X.w) X.A (call (.ref f) [.ref a, u]) (fun r s' => wpAny (model X.prog X.w) X.A (truthy r) (fun b => EP X pins σ Q (.bool (if neg then !b else b))) X.xe s') X.xe s := by
  refine thn (run_fn (us := [.ref a, u]) (vs := [.ref a, x]) F hr hb .nil pass0 I (.cons rfl (.cons rx .nil)) (by rw [List.append_nil]; exact h)) fun w' s' hh => ?_
  obtain ⟨z, H', I', rz, r, rfl, q⟩ := hh
  obtain rfl : w' = Value.bool r := rz
  exact wpAny_truthy_bool ⟨.bl (if neg then !r else r), H', I', rfl, q⟩
theorem op_inC (c : CalG X.prog X.w X.K X.mg X.base C "__contains__" k sp) (hr : Room k X.A) : OpR X (compareOp .In) (rInC false C sp) := by
  intro pins s σ H x y v u Q I rx ry h
  obtain ⟨a, dx, fs, rfl, ha, hsp⟩ := h
  obtain rfl : u = Value.ref a := ry
  obtain ⟨f, fd, ps, hs, hf, hfn, F, hb⟩ := id c.ex
  obtain ⟨mA, J, _⟩ := ins_get I.hok ha
  obtain ⟨od, J, _⟩ := J.look
  obtain ⟨m, hF⟩ := I.fr
  exact PySem.W.in_K hF I.ok.mod.kin J hs hf (run_inC (neg := false) c hr I rx ha hsp f fd ps F hb)
theorem op_notInC (c : CalG X.prog X.w X.K X.mg X.base C "__contains__" k sp) (hr : Room k X.A) : OpR X (compareOp .NotIn) (rInC true C sp) := by
  intro pins s σ H x y v u Q I rx ry h
  obtain ⟨a, dx, fs, rfl, ha, hsp⟩ := h
  obtain rfl : u = Value.ref a := ry
  obtain ⟨f, fd, ps, hs, hf, hfn, F, hb⟩ := id c.ex
  obtain ⟨mA, J, _⟩ := ins_get I.hok ha
  obtain ⟨od, J, _⟩ := J.look
  obtain ⟨m, hF⟩ := I.fr
  exact PySem.W.notIn_K hF I.ok.mod.kin J hs hf (run_inC (neg := true) c hr I rx ha hsp f fd ps F hb)
end
end OpX

set_option Elab.async false
set_option linter.all false
set_option maxRecDepth 100000
set_option maxHeartbeats 1000000
namespace Ow
open PySem PySem.Spec PyProof.Rows L2
/-! ### dicts of texts -/
abbrev Ws := List (Str × Str)
def kvT (m : Ws) : List (Key × V) := m.map fun p => (Sum.inr p.1, V.str p.2)
def wo : Ws → Str → Str
  | [], _ => ""
  | (x, u) :: r, s => if x = s then u else wo r s
def putW : Ws → Str → Str → Ws
  | [], s, v => [(s, v)]
  | (x, u) :: r, s, v => if x = s then (x, v) :: r else (x, u) :: putW r s v
theorem kvT_len (m : Ws) : (kvT m).length = m.length := List.length_map _
theorem wo_in : ∀ {a : Ws} {q : Str × Str}, (a.map (·.1)).Nodup → q ∈ a → wo a q.1 = q.2
  | (x, v) :: r, q, hn, hq => by
    rw [List.map_cons, List.nodup_cons] at hn
    show (if x = q.1 then v else wo r q.1) = q.2
    rcases List.mem_cons.mp hq with rfl | hq
    · rw [if_pos rfl]
    · have : x ≠ q.1 := fun e => hn.1 (e ▸ List.mem_map.mpr ⟨q, hq, rfl⟩)
      rw [if_neg this, wo_in hn.2 hq]
theorem wo_mem : ∀ {a : Ws} {s : Str}, s ∈ a.map (·.1) → (s, wo a s) ∈ a
  | (x, v) :: r, s, h => by
    show (s, if x = s then v else wo r s) ∈ _
    by_cases e : x = s
    · subst e
      rw [if_pos rfl]
      exact List.mem_cons_self
    · rw [if_neg e]
      rw [List.map_cons, List.mem_cons] at h
      exact List.mem_cons_of_mem _ (wo_mem (h.resolve_left (Ne.symm e)))
theorem putW_keys : ∀ (m : Ws) (s : Str) (v : Str), (putW m s v).map (·.1) = m.map (·.1) ∨ (s ∉ m.map (·.1) ∧ (putW m s v).map (·.1) = m.map (·.1) ++ [s])
  | [], s, v => .inr ⟨by simp, rfl⟩
  | (x, u) :: r, s, v => by
    unfold putW
    by_cases e : x = s
    · rw [if_pos e]
      exact .inl rfl
    · rw [if_neg e]
      rcases putW_keys r s v with h | ⟨h1, h2⟩
      · exact .inl (by rw [List.map_cons, List.map_cons, h])
      · refine .inr ⟨?_, by rw [List.map_cons, List.map_cons, h2]; rfl⟩
        rw [List.map_cons, List.mem_cons, not_or]
        exact ⟨Ne.symm e, h1⟩
theorem putW_nodup {m : Ws} (s : Str) (v : Str) (h : (m.map (·.1)).Nodup) : ((putW m s v).map (·.1)).Nodup := by
  rcases putW_keys m s v with e | ⟨e1, e2⟩
  · rw [e]; exact h
  · rw [e2, List.nodup_append]
    refine ⟨h, by simp, fun a ha b hb e => ?_⟩
    rw [List.mem_singleton.mp hb] at e
    exact e1 (e ▸ ha)
theorem putW_len (m : Ws) (s : Str) (v : Str) : (putW m s v).length ≤ m.length + 1 := by
  rcases putW_keys m s v with e | ⟨_, e⟩
  · have := congrArg List.length e
    rw [List.length_map, List.length_map] at this
    omega
  · have := congrArg List.length e
    rw [List.length_map, List.length_append, List.length_map] at this
    simp only [List.length_cons, List.length_nil] at this
    omega
theorem putW_mem : ∀ {m : Ws} {s v : Str} {q : Str × Str}, q ∈ putW m s v → q ∈ m ∨ q = (s, v)
  | [], s, v, q, h => .inr (List.mem_singleton.mp h)
  | (x, u) :: r, s, v, q, h => by
    unfold putW at h
    by_cases e : x = s
    · rw [if_pos e] at h
      rcases List.mem_cons.mp h with h | h
      · exact .inr (by rw [h, e])
      · exact .inl (List.mem_cons_of_mem _ h)
    · rw [if_neg e] at h
      rcases List.mem_cons.mp h with h | h
      · exact .inl (h ▸ List.mem_cons_self)
      · rcases putW_mem h with h | h
        · exact .inl (List.mem_cons_of_mem _ h)
        · exact .inr h
theorem putW_new : ∀ (m : Ws) (s : Str) (v : Str), s ∉ m.map (·.1) → putW m s v = m ++ [(s, v)]
  | [], _, _, _ => rfl
  | (x, u) :: r, s, v, h => by
    rw [List.map_cons, List.mem_cons, not_or] at h
    unfold putW
    rw [if_neg (Ne.symm h.1), putW_new r s v h.2]
    rfl
theorem kvT_any : ∀ (m : Ws) (s : Str), ((kvT m).any fun kv => decide (kv.1 = Sum.inr s)) = decide (s ∈ m.map (·.1))
  | [], s => by simp [kvT]
  | (x, u) :: r, s => by
    show (decide ((Sum.inr x : Key) = Sum.inr s) || (kvT r).any fun kv => decide (kv.1 = Sum.inr s)) = _
    rw [kvT_any r s, key_rr]
    by_cases e : x = s
    · subst e; simp
    · have : ¬ s = x := Ne.symm e
      simp [e, this]
theorem kvT_upd : ∀ (m : Ws) (s : Str) (v : Str), s ∈ m.map (·.1) → (m.map (·.1)).Nodup → (kvT m).map (fun kv => if kv.1 = Sum.inr s then (kv.1, V.str v) else kv) = kvT (putW m s v)
  | (x, u) :: r, s, v, h, hn => by
    rw [List.map_cons, List.nodup_cons] at hn
    show (if (Sum.inr x : Key) = Sum.inr s then ((Sum.inr x : Key), V.str v) else (Sum.inr x, V.str u)) :: (kvT r).map _ = kvT (if x = s then (x, v) :: r else (x, u) :: putW r s v)
    by_cases e : x = s
    · subst e
      rw [if_pos rfl, if_pos rfl]
      have hx : ∀ (l : Ws), x ∉ l.map (·.1) → (kvT l).map (fun kv => if kv.1 = (Sum.inr x : Key) then (kv.1, V.str v) else kv) = kvT l := fun l => by
        induction l with
        | nil => intro _; rfl
        | cons p l ih =>
          obtain ⟨y, z⟩ := p
          intro hl
          rw [List.map_cons, List.mem_cons, not_or] at hl
          show (if (Sum.inr y : Key) = Sum.inr x then ((Sum.inr y : Key), V.str v) else ((Sum.inr y : Key), V.str z)) :: ((kvT l).map fun kv => if kv.1 = (Sum.inr x : Key) then (kv.1, V.str v) else kv) = _
          rw [if_neg (fun q => hl.1 (Sum.inr.inj q).symm), ih hl.2]
          rfl
      rw [hx r hn.1]
      rfl
    · rw [if_neg (fun q => e (Sum.inr.inj q)), if_neg e]
      rw [List.map_cons, List.mem_cons] at h
      rw [kvT_upd r s v (h.resolve_left (Ne.symm e)) hn.2]
      rfl
theorem kvT_put {m : Ws} (s : Str) (v : Str) (hn : (m.map (·.1)).Nodup) : putK (kvT m) (Sum.inr s) (V.str v) = kvT (putW m s v) := by
  unfold putK
  rw [kvT_any]
  by_cases h : s ∈ m.map (·.1)
  · rw [if_pos (by simpa using h), kvT_upd m s v h hn]
  · rw [if_neg (by simpa using h), putW_new m s v h]
    unfold kvT
    rw [List.map_append]
    rfl
theorem kvT_get : ∀ {m : Ws} {s : Str}, s ∈ m.map (·.1) → valV (kvT m) (Sum.inr s) = some (V.str (wo m s))
  | (x, u) :: r, s, h => by
    show valV (((Sum.inr x : Key), V.str u) :: kvT r) (Sum.inr s) = some (V.str (if x = s then u else wo r s))
    by_cases e : x = s
    · subst e
      rw [valV_pos rfl, if_pos rfl]
    · rw [List.map_cons, List.mem_cons] at h
      rw [valV_neg (fun q => e (Sum.inr.inj q)), if_neg e, kvT_get (h.resolve_left (Ne.symm e))]
theorem kvT_keys (m : Ws) : (kvT m).map (·.1) = (m.map (·.1)).map Sum.inr := by
  unfold kvT
  rw [List.map_map, List.map_map]
  rfl
theorem kvT_at {m : Ws} {i : Nat} {k : Key} {v : V} (h : (kvT m)[i]? = some (k, v)) : ∃ q, m[i]? = some q ∧ k = Sum.inr q.1 ∧ v = .str q.2 := by
  unfold kvT at h
  rw [List.getElem?_map] at h
  cases e : m[i]? with
  | none => rw [e] at h; cases h
  | some q => rw [e] at h; cases h; exact ⟨q, rfl, rfl, rfl⟩
theorem wget {H : Hp} {d : Addr} {m : Ws} {y : Str} (r : Rd H d (.dK (kvT m))) (hy : y ∈ m.map (·.1)) : DGet H d (.str y) (some (.str (wo m y))) :=
  .inl ⟨kvT m, Sum.inr y, r, rfl, (kvT_get hy).symm⟩
/-- d is a dict of names and words -/
structure WAt (H : Hp) (d : Addr) (m : Ws) : Prop where
  at_ : H d = some (.dK (kvT m))
  nd : (m.map (·.1)).Nodup
theorem WAt.same {H H' : Hp} {d : Addr} {m : Ws} (h : WAt H d m) (s : Same H H') : WAt H' d m := ⟨s _ _ h.at_, h.nd⟩
theorem WAt.stay {b : Addr} {H H' : Hp} {d : Addr} {m : Ws} (h : WAt H d m) (s : Stay b H H') (hb : ∃ xs, H b = some (.lst xs)) : WAt H' d m := by
  obtain ⟨xs, hb⟩ := hb
  exact ⟨s _ _ (ne_of h.at_ hb (by intro z; cases z)) h.at_, h.nd⟩
theorem WAt.new {H : Hp} {d : Addr} : WAt (upd H d (.dK [])) d [] := ⟨upd_same, List.nodup_nil⟩
theorem WAt.put {H : Hp} {d : Addr} {m : Ws} (h : WAt H d m) (x v : Str) : WAt (upd H d (.dK (putK (kvT m) (Sum.inr x) (V.str v)))) d (putW m x v) :=
  ⟨by rw [upd_same, kvT_put x v h.nd], putW_nodup x v h.nd⟩
/-! ### rounds -/
abbrev Tr := Str × Str × Str
abbrev Ts := List Tr
def TripAt (H : Hp) (x : V) (t : Tr) : Prop := ∃ a, x = .ref a ∧ H a = some (.tup [.str t.1, .str t.2.1, .str t.2.2])
theorem TripAt.same {H H' : Hp} {x : V} {t : Tr} (h : TripAt H x t) (s : Same H H') : TripAt H' x t := by
  obtain ⟨a, e, h⟩ := h
  exact ⟨a, e, s _ _ h⟩
theorem TripAt.stay {b : Addr} {H H' : Hp} {x : V} {t : Tr} (h : TripAt H x t) (s : Stay b H H') (hb : ∃ xs, H b = some (.lst xs)) : TripAt H' x t := by
  obtain ⟨a, e, h⟩ := h
  obtain ⟨xs, hb⟩ := hb
  exact ⟨a, e, s _ _ (ne_of h hb (by intro z; cases z)) h⟩
def TripsAt (H : Hp) (l : Addr) (ts : Ts) : Prop := ∃ xs, H l = some (.lst xs) ∧ Paired (TripAt H) xs ts
theorem TripsAt.same {H H' : Hp} {l : Addr} {ts : Ts} (h : TripsAt H l ts) (s : Same H H') : TripsAt H' l ts := by
  obtain ⟨xs, h1, h2⟩ := h
  exact ⟨xs, s _ _ h1, paired_map (fun _ _ q => q.same s) h2⟩
theorem TripsAt.stay {b : Addr} {H H' : Hp} {l : Addr} {ts : Ts} (h : TripsAt H l ts) (s : Stay b H H') (hb : ∃ xs, H b = some (.lst xs)) (ne : l ≠ b) : TripsAt H' l ts := by
  obtain ⟨xs, h1, h2⟩ := h
  exact ⟨xs, s _ _ ne h1, paired_map (fun _ _ q => q.stay s hb) h2⟩
theorem trips_push {H : Hp} {l t : Addr} {ts : Ts} {a b c : Str} (h : TripsAt H l ts) (ht : H t = none) :
    ∃ xs, upd H t (.tup [.str a, .str b, .str c]) l = some (.lst xs) ∧ xs.length = ts.length ∧ TripsAt (upd (upd H t (.tup [.str a, .str b, .str c])) l (.lst (xs ++ [.ref t]))) l (ts ++ [(a, b, c)]) := by
  obtain ⟨xs, hx, hp⟩ := h
  have tl : t ≠ l := fun z => by rw [z, hx] at ht; cases ht
  refine ⟨xs, (upd_ne tl.symm).trans hx, paired_len hp, _, upd_same, paired_snoc ⟨t, rfl, (upd_ne tl).trans upd_same⟩ (paired_map (fun y q hq => ?_) hp)⟩
  obtain ⟨u, rfl, hu⟩ := hq
  exact ⟨u, rfl, (upd_ne (ne_of hu hx (by intro z; cases z))).trans ((upd_ne (ne_of_none hu ht)).trans hu)⟩
/-! ### what fits -/
def fitL (w : Str) (n : Int) : Bool := if w = "none" then decide (n = 0) else if w = "some" then decide (1 ≤ n) else decide (0 ≤ n)
def fitR (w : Str) (r n : Int) : Bool := if w = "first" then decide (r = 0) else decide (0 ≤ r) && decide (r < n)
def syms (wm : Ws) (ts : Ts) : List Str := wm.map (·.1) ++ ts.map (·.1)
structure Fit (wm : Ws) (ts : Ts) (m : Ps) : Prop where
  keys : (m.map (·.1)).Perm (syms wm ts)
  len : ∀ q ∈ wm, fitL q.2 (co m q.1) = true
  rnd : ∀ t ∈ ts, fitR t.2.2 (co m t.1) (co m t.2.1) = true
structure OkD (wm : Ws) (ts : Ts) : Prop where
  nd : (syms wm ts).Nodup
  nam : ∀ q ∈ wm, isLc q.1.cps.toList = true ∧ (q.2 = "any" ∨ q.2 = "none" ∨ q.2 = "some")
  rnd : ∀ t ∈ ts, isRc t.1.cps.toList = true ∧ (t.2.1, ("some" : Str)) ∈ wm ∧ (t.2.2 = "first" ∨ t.2.2 = "any")
  few : wm.length ≤ 8 ∧ ts.length ≤ 8
theorem lc_rc {l : List Nat} (h1 : isLc l = true) (h2 : isRc l = true) : False := by
  rw [isRc_eq] at h2
  unfold isLc at h1
  simp only [Bool.and_eq_true] at h1 h2
  obtain ⟨_, h3, h4, h5, _⟩ := h2
  obtain ⟨_, _, h6⟩ := h1
  have h3 := of_decide_eq_true h3
  cases e : l.drop 1 with
  | nil => rw [e] at h3; cases h3
  | cons c r =>
    rw [e, List.all_cons, Bool.and_eq_true] at h5
    have hc : c ∈ l := List.mem_of_mem_drop (i := 1) (e ▸ List.mem_cons_self)
    have h6 := List.all_eq_true.mp h6 c hc
    simp only [Bool.and_eq_true, decide_eq_true_eq] at h5 h6
    omega
theorem syms_nd {wm : Ws} {ts : Ts} (h1 : (wm.map (·.1)).Nodup) (h2 : (ts.map (·.1)).Nodup) (h3 : ∀ q ∈ wm, isLc q.1.cps.toList = true) (h4 : ∀ t ∈ ts, isRc t.1.cps.toList = true) : (syms wm ts).Nodup := by
  unfold syms
  rw [List.nodup_append]
  refine ⟨h1, h2, fun a ha b hb e => ?_⟩
  obtain ⟨q, hq, rfl⟩ := List.mem_map.mp ha
  obtain ⟨t, ht, rfl⟩ := List.mem_map.mp hb
  have := h3 q hq
  rw [e] at this
  exact lc_rc this (h4 t ht)
theorem OkD.sub {wm : Ws} {ts : Ts} (h : OkD wm ts) (i : Nat) : OkD wm (ts.take i) := by
  have hs : (ts.take i).Sublist ts := List.take_sublist _ _
  refine ⟨h.nd.sublist ((List.Sublist.refl _).append (hs.map _)), h.nam, fun t ht => h.rnd t (hs.subset ht), h.few.1, ?_⟩
  rw [List.length_take]
  have := h.few.2
  omega
theorem OkD.sym {wm : Ws} {ts : Ts} (h : OkD wm ts) : ∀ s ∈ syms wm ts, isSym s = true := fun s hs => by
  unfold isSym
  rcases List.mem_append.mp hs with hs | hs
  · obtain ⟨q, hq, rfl⟩ := List.mem_map.mp hs
    rw [(h.nam q hq).1]
    rfl
  · obtain ⟨t, ht, rfl⟩ := List.mem_map.mp hs
    rw [(h.rnd t ht).1, Bool.or_true]
/-- p is a domain -/
def DomAt (C : Addr) (H : Hp) (p : Addr) (wm : Ws) (ts : Ts) : Prop := ∃ dx d l, H p = some (.ins C dx [("_lengths", .ref d), ("_rounds", .ref l)]) ∧ WAt H d wm ∧ TripsAt H l ts
theorem DomAt.same {C : Addr} {H H' : Hp} {p : Addr} {wm : Ws} {ts : Ts} (h : DomAt C H p wm ts) (s : Same H H') : DomAt C H' p wm ts := by
  obtain ⟨dx, d, l, h1, h2, h3⟩ := h
  exact ⟨dx, d, l, s _ _ h1, h2.same s, h3.same s⟩
/-- p is a domain, its dict at d, its list at l -/
def DomIn (C : Addr) (H : Hp) (p : Addr) (wm : Ws) (ts : Ts) (dx d l : Addr) : Prop := H p = some (.ins C dx [("_lengths", .ref d), ("_rounds", .ref l)]) ∧ WAt H d wm ∧ TripsAt H l ts
theorem DomIn.dom {C : Addr} {H : Hp} {p : Addr} {wm : Ws} {ts : Ts} {dx d l : Addr} (h : DomIn C H p wm ts dx d l) : DomAt C H p wm ts := ⟨dx, d, l, h⟩
theorem DomIn.same {C : Addr} {H H' : Hp} {p : Addr} {wm : Ws} {ts : Ts} {dx d l : Addr} (h : DomIn C H p wm ts dx d l) (s : Same H H') : DomIn C H' p wm ts dx d l := ⟨s _ _ h.1, h.2.1.same s, h.2.2.same s⟩
structure DomK (K : PySem.W.Frag) (C : Addr) : Prop where
  cl : Cls K C
  n1 : NoAttr K C "_lengths"
  n2 : NoAttr K C "_rounds"
/-- the two tuples of words -/
structure DTx (K : PySem.W.Frag) (mg : Str → Option Value) (AL AR : Addr) : Prop where
  hLW : mg "LENGTH_WORDS" = some (.ref AL)
  hRW : mg "ROUND_WORDS" = some (.ref AR)
  sL : ∀ H, SqT K H AL [.str "any", .str "none", .str "some"]
  sR : ∀ H, SqT K H AR [.str "first", .str "any"]
def spFitL : Sp := fun vs H Q _ => ∃ (w : Str) (n : Int), vs = [.str w, .int n] ∧ Q (.bl (fitL w n)) H
def spFitR : Sp := fun vs H Q _ => ∃ (w : Str) (r n : Int), vs = [.str w, .int r, .int n] ∧ Q (.bl (fitR w r n)) H
def spDSyms (C : Addr) : Sp := fun vs H Q _ => ∃ (p : Addr) (wm : Ws) (ts : Ts), vs = [.ref p] ∧ DomAt C H p wm ts ∧ wm.length ≤ 8 ∧ ts.length ≤ 8 ∧
  ∀ l ys H', ys.Perm (syms wm ts) → sortedS ys = true → H l = none → H' l = some (.lst (ys.map V.str)) → Same H H' → Q (.ref l) H'
def spDInit (K : PySem.W.Frag) (C : Addr) : Sp := fun vs H Q _ => ∃ (x d r dx : Addr) (xs : List V) (wm : Ws) (ts : Ts), vs = [.ref x, .ref d, .ref r] ∧ H x = some (.ins C dx []) ∧ WAt H d wm ∧ (SqL K H r xs ∨ SqT K H r xs) ∧ Paired (TripAt H) xs ts ∧ OkD wm ts ∧ ∀ H' e l, DomIn C H' x wm ts dx e l → H e = none → H l = none → Stay x H H' → Q .non H'
def spDIn (C : Addr) : Sp := fun vs H Q _ => ∃ (p v : Addr) (wm : Ws) (ts : Ts) (m : Ps), vs = [.ref p, .ref v] ∧ DomAt C H p wm ts ∧ OkD wm ts ∧ DictAt H v m ∧ m.length ≤ 32 ∧ ∀ b H', (b = true ↔ Fit wm ts m) → Same H H' → Q (.bl b) H'
/-! ### lists of texts as data -/
def datS (l : List Str) : List PyData := l.map PyData.str
theorem dpAll_s {K : PySem.W.Frag} {H : Hp} : ∀ l : List Str, DpAll K H (l.map V.str) (datS l)
  | [] => .nil
  | x :: l => .cons (.str _) (dpAll_s l)
theorem can_s : ∀ {l : List Str}, (∀ x ∈ l, isSym x = true) → PyData.canLayAll0 (datS l) = true
  | [], _ => rfl
  | x :: l, h => by
    show (PyData.strOk x && PyData.canLayAll0 (datS l)) = true
    rw [sym_ok (h x List.mem_cons_self), can_s fun p hp => h p (List.mem_cons_of_mem _ hp)]
    rfl
theorem depth_s : ∀ (l : List Str), PyData.depthAll (datS l) = 0
  | [] => rfl
  | x :: l => by
    show max (PyData.depth (.str x)) (PyData.depthAll (datS l)) = 0
    rw [depth_s l]
    simp [PyData.depth]
theorem shapedS {l : List Str} (h : ∀ x ∈ l, isSym x = true) : SeqAt.shaped (.list (datS l)) = true := by
  unfold SeqAt.shaped
  rw [Bool.and_eq_true]
  refine ⟨can_s h, decide_eq_true ?_⟩
  have := depth_s l
  show PyData.depthAll (datS l) + 1 ≤ 64
  omega
theorem eqvS : ∀ (l l' : List Str), PyData.eqvAll (datS l) (datS l') = decide (l = l')
  | [], [] => by simp [datS, PyData.eqvAll]
  | [], _ :: _ => by simp [datS, PyData.eqvAll]
  | _ :: _, [] => by simp [datS, PyData.eqvAll]
  | x :: l, y :: l' => by
    have ih := eqvS l l'
    unfold datS at ih ⊢
    rw [List.map_cons, List.map_cons]
    simp only [PyData.eqvAll, PyData.eqv, ih]
    by_cases e : x = y
    · subst e
      simp
    · simp [e]
theorem eqvLS (l l' : List Str) : PyData.eqv (.list (datS l)) (.list (datS l')) = decide (l = l') := by
  rw [PyData.eqv, eqvS]
theorem srt_iff {ys zs a b : List Str} (h1 : ys.Perm a) (h2 : zs.Perm b) (s1 : sortedS ys = true) (s2 : sortedS zs = true) : ys = zs ↔ a.Perm b :=
  ⟨fun e => h1.symm.trans (e ▸ h2), fun p => sorted_one (sorted_pw s1) (sorted_pw s2) (h1.trans (p.trans h2.symm))⟩
theorem mergeK_kvT : ∀ (b a : Ws), ((a ++ b).map (·.1)).Nodup → mergeK (kvT a) (kvT b) = kvT (a ++ b)
  | [], a, _ => by rw [List.append_nil]; rfl
  | (x, v) :: b, a, h => by
    have hx : x ∉ a.map (·.1) := fun hx => by
      rw [List.map_append, List.nodup_append] at h
      exact h.2.2 x hx x (by simp) rfl
    have e : (a ++ (x, v) :: b) = (a ++ [(x, v)]) ++ b := by simp
    have ha : (a.map (·.1)).Nodup := by
      rw [List.map_append, List.nodup_append] at h
      exact h.1
    rw [e] at h ⊢
    rw [← mergeK_kvT b (a ++ [(x, v)]) h, ← putW_new a x v hx, ← kvT_put x v ha]
    rfl
theorem self_wo {wm : Ws} (nd : (wm.map (·.1)).Nodup) : (wm.map (·.1)).map (fun y => (y, wo wm y)) = wm := by
  rw [List.map_map]
  conv => rhs; rw [← List.map_id wm]
  exact List.map_congr_left fun q hq => by
    show (q.1, wo wm q.1) = q
    rw [wo_in nd hq]
theorem rev_perm {wm : Ws} {ys : List Str} (nd : (wm.map (·.1)).Nodup) (h : ys.Perm (wm.map (·.1))) : (ys.reverse.map fun y => (y, wo wm y)).Perm wm := by
  have := ((List.reverse_perm ys).trans h).map fun y => (y, wo wm y)
  rw [self_wo nd] at this
  exact this
theorem syms_perm {wm gm : Ws} {ts : Ts} (p : gm.Perm wm) : (syms gm ts).Perm (syms wm ts) := (p.map _).append_right _
theorem OkD.perm {wm gm : Ws} {ts : Ts} (h : OkD wm ts) (p : gm.Perm wm) : OkD gm ts :=
  ⟨(syms_perm p).nodup_iff.mpr h.nd, fun q hq => h.nam q (p.mem_iff.mp hq), fun t ht => ⟨(h.rnd t ht).1, p.mem_iff.mpr (h.rnd t ht).2.1, (h.rnd t ht).2.2⟩, by rw [p.length_eq]; exact h.few⟩
theorem fit_perm {wm gm : Ws} {ts : Ts} {m : Ps} (p : gm.Perm wm) : Fit gm ts m ↔ Fit wm ts m :=
  ⟨fun h => ⟨h.keys.trans (syms_perm p), fun q hq => h.len q (p.mem_iff.mpr hq), h.rnd⟩, fun h => ⟨h.keys.trans (syms_perm p).symm, fun q hq => h.len q (p.mem_iff.mp hq), h.rnd⟩⟩
def datR (ts : Ts) : List PyData := ts.map fun t => .tuple [.str t.1, .str t.2.1, .str t.2.2]
theorem dpAll_r {K : PySem.W.Frag} {H : Hp} : ∀ {xs : List V} {ts : Ts}, Paired (TripAt H) xs ts → DpAll K H xs (datR ts)
  | _, _, .nil => .nil
  | _, _, .cons h r => by
    obtain ⟨t, rfl, h⟩ := h
    exact .cons (.tup (SqT.of h) (.cons (.str _) (.cons (.str _) (.cons (.str _) .nil)))) (dpAll_r r)
def OkT (t : Tr) : Prop := isSym t.1 = true ∧ isSym t.2.1 = true ∧ isSym t.2.2 = true ∨ isSym t.1 = true ∧ isSym t.2.1 = true ∧ t.2.2 = "first"
theorem okT_str {t : Tr} (h : OkT t) : PyData.strOk t.1 = true ∧ PyData.strOk t.2.1 = true ∧ PyData.strOk t.2.2 = true := by
  rcases h with ⟨a, b, c⟩ | ⟨a, b, c⟩
  · exact ⟨sym_ok a, sym_ok b, sym_ok c⟩
  · refine ⟨sym_ok a, sym_ok b, ?_⟩
    rw [c]
    decide +kernel
theorem can_r : ∀ {ts : Ts}, (∀ t ∈ ts, OkT t) → PyData.canLayAll0 (datR ts) = true
  | [], _ => rfl
  | t :: ts, h => by
    obtain ⟨a, b, c⟩ := okT_str (h t List.mem_cons_self)
    show ((PyData.strOk t.1 && (PyData.strOk t.2.1 && (PyData.strOk t.2.2 && true))) && PyData.canLayAll0 (datR ts)) = true
    rw [a, b, c, can_r fun p hp => h p (List.mem_cons_of_mem _ hp)]
    rfl
theorem depth_r : ∀ (ts : Ts), PyData.depthAll (datR ts) ≤ 1
  | [] => Nat.zero_le _
  | t :: ts => by
    show max (PyData.depth (.tuple [.str t.1, .str t.2.1, .str t.2.2])) (PyData.depthAll (datR ts)) ≤ 1
    have h1 : PyData.depth (.tuple [.str t.1, .str t.2.1, .str t.2.2]) = 1 := by simp [PyData.depth, PyData.depthAll]
    have h2 := depth_r ts
    omega
theorem shapedR {ts : Ts} (h : ∀ t ∈ ts, OkT t) : SeqAt.shaped (.list (datR ts)) = true := by
  unfold SeqAt.shaped
  rw [Bool.and_eq_true]
  refine ⟨can_r h, decide_eq_true ?_⟩
  have := depth_r ts
  show PyData.depthAll (datR ts) + 1 ≤ 64
  omega
theorem eqvR {ts : Ts} (h : ∀ t ∈ ts, OkT t) : PyData.eqv (.list (datR ts)) (.list (datR ts)) = true := SeqAt.eqv_refl _ (SeqAt.canLay_of_shaped (shapedR h))
theorem eqvR_nil (ts : Ts) : PyData.eqv (.list (datR ts)) (.list []) = ts.isEmpty := by
  cases ts <;> rfl
theorem OkD.trip {wm : Ws} {ts : Ts} (h : OkD wm ts) : ∀ t ∈ ts, OkT t := fun t ht => by
  obtain ⟨a, b, c⟩ := h.rnd t ht
  have h1 : isSym t.1 = true := by
    unfold isSym
    rw [a, Bool.or_true]
  have h2 : isSym t.2.1 = true := by
    unfold isSym
    rw [(h.nam _ b).1]
    rfl
  rcases c with c | c
  · exact .inr ⟨h1, h2, c⟩
  · refine .inl ⟨h1, h2, ?_⟩
    rw [c]
    decide +kernel
theorem sq_stay {K : PySem.W.Frag} {H H' : Hp} {x r : Addr} {xs : List V} (h : SqL K H r xs ∨ SqT K H r xs) (hx : ∃ C dx fs, H x = some (.ins C dx fs)) (s : Stay x H H') : (SqL K H r xs → SqL K H' r xs) ∧ (SqT K H r xs → SqT K H' r xs) := by
  obtain ⟨C, dx, fs, hx⟩ := hx
  refine ⟨fun h => ?_, fun h => ?_⟩
  · rcases h with (e | ⟨o, e⟩) | h
    · exact .inl (.inl (s _ _ (ne_of e hx (by intro z; cases z)) e))
    · exact .inl (.inr ⟨o, s _ _ (ne_of e hx (by intro z; cases z)) e⟩)
    · exact .inr h
  · rcases h with (e | ⟨o, e⟩) | h
    · exact .inl (.inl (s _ _ (ne_of e hx (by intro z; cases z)) e))
    · exact .inl (.inr ⟨o, s _ _ (ne_of e hx (by intro z; cases z)) e⟩)
    · exact .inr h
theorem seq_or {K : PySem.W.Frag} {H H1 : Hp} {x r : Addr} {xs : List V} {R : It → Prop} (h : SqL K H r xs ∨ SqT K H r xs) (hx : ∃ C dx fs, H x = some (.ins C dx fs)) (s1 : Stay x H H1)
    (k : ∀ J, Walk J xs.length (fun H' => Stay x H H') (YAt xs) → R J) : (SqL K H1 r xs ∧ R (Itl K r)) ∨ (SqT K H1 r xs ∧ R (Itt K r)) := by
  rcases id h with q | q
  · exact .inl ⟨(sq_stay h hx s1).1 q, k _ (walk_list.mono (fun H' s => (sq_stay h hx s).1 q) fun _ _ _ _ _ _ y => y)⟩
  · exact .inr ⟨(sq_stay h hx s1).2 q, k _ (walk_tup.mono (fun H' s => (sq_stay h hx s).2 q) fun _ _ _ _ _ _ y => y)⟩
theorem inV_str {s : Str} : ∀ {l : List Str}, inV (.str s) (l.map V.str) = decide (s ∈ l)
  | [] => rfl
  | y :: l => by
    show (eqV (.str y) (.str s) || inV (.str s) (l.map V.str)) = _
    rw [inV_str]
    by_cases e : y = s
    · subst e
      simp [eqV]
    · have : ¬ s = y := Ne.symm e
      simp [eqV, e, this]
theorem flat_strs : ∀ l : List Str, (l.map V.str).all flatV = true
  | [] => rfl
  | _ :: l => flat_strs l
theorem lc_len {x : Str} (h : isLc x.cps.toList = true) : x.length ≤ sizeLine := sym_len (by unfold isSym; rw [h]; rfl)
theorem rc_len {x : Str} (h : isRc x.cps.toList = true) : x.length ≤ sizeLine := sym_len (by unfold isSym; rw [h, Bool.or_true])
section
variable {X : Cx} {tg : Expr}
def iSeq (K : PySem.W.Frag) (tl : TE) : TI := fun σ H R => tl σ H fun x H1 => ∃ a xs, x = .ref a ∧ ((SqL K H1 a xs ∧ R (Itl K a) H1) ∨ (SqT K H1 a xs ∧ R (Itt K a) H1))
theorem pi_seq {l : Expr} {tl : TE} (hl : PE X l tl) : PI X tg l (iSeq X.K tl) := by
  refine ⟨fun pins s σ H R I h => ?_⟩
  refine thn (hl.run pins s σ H _ I h) fun v s1 ⟨x, H1, I1, r1, q1⟩ => ?_
  obtain ⟨a, xs, e, q⟩ := q1
  subst e
  cases r1
  rcases q with ⟨hq, q⟩ | ⟨hq, q⟩
  · obtain ⟨its, rv, p, hz⟩ := I1.list hq
    refine wpAny_pyIter_list p.isList ?_
    refine ⟨s1.heap.objs.size, [s1.heap.objs.size], _, _, H1, rfl, I1.kept (t' := s1.toks) fun b o e => Heap.get?_push_of_some _ e, turn_list a _, ⟨_, Heap.get?_push_size _ rfl, rfl, rfl⟩, fun b hb => ?_, q⟩
    have e : b = s1.heap.objs.size := by simpa using hb
    subst e
    exact I1.fpOk (Nat.le_refl _) (I1.hok.fresh (Nat.le_refl _))
  · obtain ⟨its, rv, p, hz⟩ := I1.tuple hq
    refine wpAny_pyIter_tuple (show s1.heap.IsTuple a its.toArray from p) ?_
    refine ⟨s1.heap.objs.size, [s1.heap.objs.size], _, _, H1, rfl, I1.kept (t' := s1.toks) fun b o e => Heap.get?_push_of_some _ e, turn_tuple a _, ⟨_, Heap.get?_push_size _ rfl, rfl, rfl⟩, fun b hb => ?_, q⟩
    have e : b = s1.heap.objs.size := by simpa using hb
    subst e
    exact I1.fpOk (Nat.le_refl _) (I1.hok.fresh (Nat.le_refl _))
end
end Ow

set_option Elab.async false
set_option linter.all false
set_option maxRecDepth 100000
set_option maxHeartbeats 8000000
namespace Ow
open PySem PySem.Spec PyProof.Rows L2 ErX
local macro_rules | `(tactic| walk_at "rd") => `(tactic| repeat (first | (refine ⟨_, rfl, ?_⟩) | (refine ⟨_, _, rfl, rfl, ?_⟩) | (refine ⟨rfl, ?_⟩) | (refine ⟨_, _, rfl, ?_⟩) | (refine Or.inl ⟨_, rfl, ?_⟩) | (refine ⟨(by first | (show (0 : Int) < (_ : Int); decide) | exact Or.inl ⟨by decide, by decide⟩ | exact Or.inr ⟨by decide, by decide⟩ | exact ⟨by decide, by decide⟩ | exact ⟨by decide, by decide, by decide⟩), ?_⟩)))
/-- the two tuples of the law -/
structure Two (H : Hp) (sz pr : Addr) (z : Int) (x : Str) : Prop where
  h1 : H sz = some (.tup [.int z, .int 0])
  h2 : ∃ p1 p2, H pr = some (.tup [.ref p1, .ref p2]) ∧ H p1 = some (.tup [.int 3, .str "go"]) ∧ H p2 = some (.tup [.int z, .str x])
theorem Two.same {H H' : Hp} {sz pr : Addr} {z : Int} {x : Str} (h : Two H sz pr z x) (s : Same H H') : Two H' sz pr z x := by
  obtain ⟨h1, p1, p2, h2, h3, h4⟩ := h
  exact ⟨s _ _ h1, p1, p2, s _ _ h2, s _ _ h3, s _ _ h4⟩
theorem shaped_sz (z : Int) : SeqAt.shaped (.tuple [.int z, .int 0]) = true := rfl
theorem shaped_pr {x : Str} (z : Int) (hx : Sm x) : SeqAt.shaped (.tuple [.tuple [.int 3, .str "go"], .tuple [.int z, .str x]]) = true := by
  unfold SeqAt.shaped
  rw [Bool.and_eq_true]
  refine ⟨?_, decide_eq_true ?_⟩
  · show ((true && (PyData.strOk "go" && true)) && ((true && (PyData.strOk x && true)) && true)) = true
    rw [hx.ok, show PyData.strOk "go" = true by decide +kernel]
    rfl
  · simp [PyData.depth, PyData.depthAll]
theorem self_eqv {d : PyData} (h : SeqAt.shaped d = true) : PyData.eqv d d = true := SeqAt.eqv_refl _ (SeqAt.canLay_of_shaped h)
def datN (l : List Int) : List PyData := l.map PyData.int
theorem dpAll_n {K : PySem.W.Frag} {H : Hp} : ∀ l : List Int, DpAll K H (l.map V.int) (datN l)
  | [] => .nil
  | x :: l => .cons (.int _) (dpAll_n l)
theorem shaped_n : ∀ l : List Int, SeqAt.shaped (.list (datN l)) = true := fun l => by
  have a : PyData.canLayAll0 (datN l) = true := by
    induction l with
    | nil => rfl
    | cons x l ih => exact ih
  have b : PyData.depthAll (datN l) = 0 := by
    induction l with
    | nil => rfl
    | cons x l ih =>
      show max (PyData.depth (.int x)) (PyData.depthAll (datN l)) = 0
      rw [ih a]
      simp [PyData.depth]
  unfold SeqAt.shaped
  rw [Bool.and_eq_true]
  refine ⟨a, decide_eq_true ?_⟩
  show PyData.depthAll (datN l) + 1 ≤ 64
  omega
theorem shaped_x {x : Str} (hx : Sm x) : ∀ l : List Str, (∀ y ∈ l, y = x) → SeqAt.shaped (.list (datS l)) = true := fun l h => by
  have a : PyData.canLayAll0 (datS l) = true := by
    induction l with
    | nil => rfl
    | cons y l ih =>
      show (PyData.strOk y && PyData.canLayAll0 (datS l)) = true
      rw [h y List.mem_cons_self, hx.ok, ih fun z hz => h z (List.mem_cons_of_mem _ hz)]
      rfl
  unfold SeqAt.shaped
  rw [Bool.and_eq_true]
  refine ⟨a, decide_eq_true ?_⟩
  have := depth_s l
  show PyData.depthAll (datS l) + 1 ≤ 64
  omega
def spFields : Sp := fun vs H Q _ => ∃ (n z : Int) (x : Str) (sz pr : Addr), vs = [.int n, .str x, .ref sz, .ref pr] ∧ n.natAbs < 10 ^ 60 ∧ Sm x ∧ Two H sz pr z x ∧ ∀ H', Same H H' → Q (.bl true) H'
section
variable {P : Program} {w : World} {K : PySem.W.Frag} {mg : Str → Option Value} {base : Heap} {cs : Nat → Addr}
abbrev s_law_fields : Stmt := top 22
theorem sc_law_fields : FnScope ["count", "text", "sizes", "pairs", "one", "fields", "counts", "rest"] ["count", "text", "sizes", "pairs"] (defScope s_law_fields) := ⟨rfl, rfl, rfl, by decide +kernel, rfl, by decide +kernel, by decide +kernel⟩
theorem ok_fields {f : Addr} {fd : FuncData} (F : Fun K "_law_fields" "_law_fields" s_law_fields f fd) (T : Txt mg) (hX : ∀ i, i < 15 → XfC K (cs i)) (no0 : PySem.W.findIn K (.ref (cs 0)) "symbol" = some none) (no1 : PySem.W.findIn K (.ref (cs 1)) "symbol" = some none) (no2 : PySem.W.findIn K (.ref (cs 2)) "row" = some none) (no3 : PySem.W.findIn K (.ref (cs 3)) "what" = some none) (no4 : PySem.W.findIn K (.ref (cs 4)) "row" = some none) (no5 : PySem.W.findIn K (.ref (cs 5)) "half" = some none) (no6 : PySem.W.findIn K (.ref (cs 6)) "number" = some none) (no7 : PySem.W.findIn K (.ref (cs 7)) "number" = some none) (no8 : PySem.W.findIn K (.ref (cs 8)) "row" = some none) (no9 : PySem.W.findIn K (.ref (cs 9)) "row" = some none) (no10 : PySem.W.findIn K (.ref (cs 10)) "word" = some none) (no11 : PySem.W.findIn K (.ref (cs 11)) "name" = some none) (no12 : PySem.W.findIn K (.ref (cs 12)) "number" = some none) (no13 : PySem.W.findIn K (.ref (cs 13)) "at" = some none) (no14a : PySem.W.findIn K (.ref (cs 14)) "kind" = some none) (no14b : PySem.W.findIn K (.ref (cs 14)) "lengths" = some none) (no14c : PySem.W.findIn K (.ref (cs 14)) "moves" = some none) (M0 : ∀ base : Heap, EvX.ErV P w K mg base 2 "BadSymbol" (cs 0) ["symbol"] (EvX.spEw (cs 0) "symbol")) (M1 : ∀ base : Heap, EvX.ErV P w K mg base 2 "BadDomain" (cs 1) ["symbol"] (EvX.spEw (cs 1) "symbol")) (M2 : ∀ base : Heap, EvX.ErV P w K mg base 2 "BadFunction" (cs 2) ["row"] (EvX.spEw (cs 2) "row")) (M3 : ∀ base : Heap, EvX.ErV P w K mg base 2 "TooMany" (cs 3) ["what"] (EvX.spEw (cs 3) "what")) (M4 : ∀ base : Heap, EvX.ErV P w K mg base 2 "NotCut" (cs 4) ["row"] (EvX.spEw (cs 4) "row")) (M5 : ∀ base : Heap, EvX.ErV P w K mg base 2 "Amid" (cs 5) ["half"] (EvX.spEw (cs 5) "half")) (M6 : ∀ base : Heap, EvX.ErV P w K mg base 2 "Closed" (cs 6) ["number"] (EvX.spEw (cs 6) "number")) (M7 : ∀ base : Heap, EvX.ErV P w K mg base 2 "Starved" (cs 7) ["number"] (EvX.spEw (cs 7) "number")) (M8 : ∀ base : Heap, EvX.ErV P w K mg base 2 "Failed" (cs 8) ["row"] (EvX.spEw (cs 8) "row")) (M9 : ∀ base : Heap, EvX.ErV P w K mg base 2 "Cut" (cs 9) ["row"] (EvX.spEw (cs 9) "row")) (M10 : ∀ base : Heap, EvX.ErV P w K mg base 2 "BadDoor" (cs 10) ["word"] (EvX.spEw (cs 10) "word")) (M11 : ∀ base : Heap, EvX.ErV P w K mg base 2 "BadName" (cs 11) ["name"] (EvX.spEw (cs 11) "name")) (M12 : ∀ base : Heap, EvX.ErV P w K mg base 2 "NotLent" (cs 12) ["number"] (EvX.spEw (cs 12) "number")) (M13 : ∀ base : Heap, EvX.ErV P w K mg base 2 "BadMove" (cs 13) ["at"] (EvX.spEw (cs 13) "at")) (M14 : ∀ base : Heap, EvX.ErV P w K mg base 2 "Faulty" (cs 14) ["kind", "lengths", "moves"] (EvX.spE3 (cs 14) "kind" "lengths" "moves")) : FnOk P w K mg base CX0 4 f fd ["count", "text", "sizes", "pairs"] spFields := by
  refine F.ok sc_law_fields (fun vs H Q E h => ?_) (fun cdv A outer s H vs Q E hr h => ?_)
  · obtain ⟨n, z, x, sz, pr, rfl, _⟩ := h
    rfl
  · obtain ⟨n, z, x, sz, pr, rfl, hn, hx, h2, k⟩ := h
    have hu := hu_of hr
    have okx : EvX.OkW (.str x) := .inl ⟨x, rfl, hx⟩
    have okn : EvX.OkW (.int n) := .inr ⟨n, rfl, hn⟩
    refine ⟨_, (pss_cons (ps_set (i := 4) sc_law_fields.nd rfl (Or.inl rfl) (EvX.pe_mkVK (M14 base) (hr.mono (by decide)) (pk_cons (pv 1) (pk_cons (pv 2) (pk_cons (pv 3) pk_nil)))))
      (pss_cons (ps_set (i := 5) sc_law_fields.nd rfl (Or.inl rfl) (pe_lst (pa_cons (EvX.pe_fv (EvX.pe_mkVK (M0 base) (hr.mono (by decide)) (pk_cons (pv 1) pk_nil))) (pa_cons (EvX.pe_fv (EvX.pe_mkVK (M1 base) (hr.mono (by decide)) (pk_cons (pv 1) pk_nil))) (pa_cons (EvX.pe_fv (EvX.pe_mkVK (M3 base) (hr.mono (by decide)) (pk_cons (pv 1) pk_nil))) pa_nil)))))
      (pss_cons (ps_set (i := 5) sc_law_fields.nd rfl (Or.inl rfl) (pe_op op_cat (pv 5) (pe_lst (pa_cons (EvX.pe_fv (EvX.pe_mkVK (M5 base) (hr.mono (by decide)) (pk_cons (pv 1) pk_nil))) (pa_cons (EvX.pe_fv (EvX.pe_mkVK (M10 base) (hr.mono (by decide)) (pk_cons (pv 1) pk_nil))) (pa_cons (EvX.pe_fv (EvX.pe_mkVK (M11 base) (hr.mono (by decide)) (pk_cons (pv 1) pk_nil))) (pa_cons (EvX.pe_fv (pv 4)) pa_nil)))))))
      (pss_cons (ps_set (i := 6) sc_law_fields.nd rfl (Or.inl rfl) (pe_lst (pa_cons (EvX.pe_fv (EvX.pe_mkVK (M2 base) (hr.mono (by decide)) (pk_cons (pv 0) pk_nil))) (pa_cons (EvX.pe_fv (EvX.pe_mkVK (M4 base) (hr.mono (by decide)) (pk_cons (pv 0) pk_nil))) (pa_cons (EvX.pe_fv (EvX.pe_mkVK (M6 base) (hr.mono (by decide)) (pk_cons (pv 0) pk_nil))) pa_nil)))))
      (pss_cons (ps_set (i := 6) sc_law_fields.nd rfl (Or.inl rfl) (pe_op op_cat (pv 6) (pe_lst (pa_cons (EvX.pe_fv (EvX.pe_mkVK (M7 base) (hr.mono (by decide)) (pk_cons (pv 0) pk_nil))) (pa_cons (EvX.pe_fv (EvX.pe_mkVK (M8 base) (hr.mono (by decide)) (pk_cons (pv 0) pk_nil))) (pa_cons (EvX.pe_fv (EvX.pe_mkVK (M9 base) (hr.mono (by decide)) (pk_cons (pv 0) pk_nil))) pa_nil))))))
      (pss_cons (ps_set (i := 6) sc_law_fields.nd rfl (Or.inl rfl) (pe_op op_cat (pv 6) (pe_lst (pa_cons (EvX.pe_fv (EvX.pe_mkVK (M12 base) (hr.mono (by decide)) (pk_cons (pv 0) pk_nil))) (pa_cons (EvX.pe_fv (EvX.pe_mkVK (M13 base) (hr.mono (by decide)) (pk_cons (pv 0) pk_nil))) pa_nil)))))
      (pss_cons (ps_set (i := 7) sc_law_fields.nd rfl (Or.inl rfl) (pe_and (pe_cmpR (op_eqD hr.units) (EvX.pe_fv (pv 4)) (pv 2) (nomark _)) (pe_one (pe_cmpR (op_eqD hr.units) (EvX.pe_fv (pv 4)) (pv 3) (nomark _)))))
      (pss_one (ps_ret (pe_and (pe_cmpR (op_eqD hr.units) (pv 5) (pe_op op_rep (pe_lst (pa_cons (pv 1) pa_nil)) pe_int) (nomark _)) (pe_and (pe_cmpR (op_eqD hr.units) (pv 6) (pe_op op_rep (pe_lst (pa_cons (pv 0) pa_nil)) pe_int) (nomark _)) (pe_one (pv 7))))))))))))), ?_⟩
    walk_at "rd"
    refine ⟨by show 3 ≤ 1000; decide, fun a14 n14 => ⟨a14, _, _, _, rfl, okx, upd_same, fun d G14 _ _ q1 q2 q3 => ⟨rfl, ?_⟩⟩⟩
    obtain ⟨e14, SS⟩ := EvX.e_new n14 q1 q2 q3
    clear q1 q2 q3
    have h2 := h2.same SS
    walk_at "rd"
    refine ⟨by show 1 ≤ 1000; decide, fun a0 n0 => ⟨a0, _, rfl, okx, upd_same, fun d G0 _ _ q1 q2 q3 => ⟨rfl, ?_⟩⟩⟩
    obtain ⟨e0, U0⟩ := EvX.e_new n0 q1 q2 q3
    clear q1 q2 q3
    have e14 := e14.same U0
    have h2 := h2.same U0
    have SS := same_trans SS U0
    clear U0
    obtain ⟨d0, w1, w2⟩ := e0
    refine ⟨a0, cs 0, d0, _, .str x, rfl, w1, w2, rfl, hX 0 (by decide), no0, ?_⟩
    clear w1 w2
    walk_at "rd"
    refine ⟨by show 1 ≤ 1000; decide, fun a1 n1 => ⟨a1, _, rfl, okx, upd_same, fun d G1 _ _ q1 q2 q3 => ⟨rfl, ?_⟩⟩⟩
    obtain ⟨e1, U1⟩ := EvX.e_new n1 q1 q2 q3
    clear q1 q2 q3
    have e14 := e14.same U1
    have h2 := h2.same U1
    have SS := same_trans SS U1
    clear U1
    obtain ⟨d1, w1, w2⟩ := e1
    refine ⟨a1, cs 1, d1, _, .str x, rfl, w1, w2, rfl, hX 1 (by decide), no1, ?_⟩
    clear w1 w2
    walk_at "rd"
    refine ⟨by show 1 ≤ 1000; decide, fun a3 n3 => ⟨a3, _, rfl, okx, upd_same, fun d G3 _ _ q1 q2 q3 => ⟨rfl, ?_⟩⟩⟩
    obtain ⟨e3, U3⟩ := EvX.e_new n3 q1 q2 q3
    clear q1 q2 q3
    have e14 := e14.same U3
    have h2 := h2.same U3
    have SS := same_trans SS U3
    clear U3
    obtain ⟨d3, w1, w2⟩ := e3
    refine ⟨a3, cs 3, d3, _, .str x, rfl, w1, w2, rfl, hX 3 (by decide), no3, ?_⟩
    clear w1 w2
    walk_at "rd"
    refine ⟨by show 3 ≤ sizeLine; decide, fun l1 nl1 => ?_⟩
    obtain ⟨Hl1, hHH⟩ : ∃ HH, HH = upd G3 l1 (.lst [.str x, .str x, .str x]) := ⟨_, rfl⟩
    rw [← hHH]
    have U : Same G3 Hl1 := by rw [hHH]; exact same_new (fun _ _ e => e) nl1
    have hl1 : Hl1 l1 = some (.lst [.str x, .str x, .str x]) := by rw [hHH]; exact upd_same
    clear hHH
    have e14 := e14.same U
    have h2 := h2.same U
    have SS := same_trans SS U
    clear U
    walk_at "rd"
    refine ⟨by show 1 ≤ 1000; decide, fun a5 n5 => ⟨a5, _, rfl, okx, upd_same, fun d G5 _ _ q1 q2 q3 => ⟨rfl, ?_⟩⟩⟩
    obtain ⟨e5, U5⟩ := EvX.e_new n5 q1 q2 q3
    clear q1 q2 q3
    have e14 := e14.same U5
    have h2 := h2.same U5
    have SS := same_trans SS U5
    have hl1 := U5 _ _ hl1
    clear U5
    obtain ⟨d5, w1, w2⟩ := e5
    refine ⟨a5, cs 5, d5, _, .str x, rfl, w1, w2, rfl, hX 5 (by decide), no5, ?_⟩
    clear w1 w2
    walk_at "rd"
    refine ⟨by show 1 ≤ 1000; decide, fun a10 n10 => ⟨a10, _, rfl, okx, upd_same, fun d G10 _ _ q1 q2 q3 => ⟨rfl, ?_⟩⟩⟩
    obtain ⟨e10, U10⟩ := EvX.e_new n10 q1 q2 q3
    clear q1 q2 q3
    have e14 := e14.same U10
    have h2 := h2.same U10
    have SS := same_trans SS U10
    have hl1 := U10 _ _ hl1
    clear U10
    obtain ⟨d10, w1, w2⟩ := e10
    refine ⟨a10, cs 10, d10, _, .str x, rfl, w1, w2, rfl, hX 10 (by decide), no10, ?_⟩
    clear w1 w2
    walk_at "rd"
    refine ⟨by show 1 ≤ 1000; decide, fun a11 n11 => ⟨a11, _, rfl, okx, upd_same, fun d G11 _ _ q1 q2 q3 => ⟨rfl, ?_⟩⟩⟩
    obtain ⟨e11, U11⟩ := EvX.e_new n11 q1 q2 q3
    clear q1 q2 q3
    have e14 := e14.same U11
    have h2 := h2.same U11
    have SS := same_trans SS U11
    have hl1 := U11 _ _ hl1
    clear U11
    obtain ⟨d11, w1, w2⟩ := e11
    refine ⟨a11, cs 11, d11, _, .str x, rfl, w1, w2, rfl, hX 11 (by decide), no11, ?_⟩
    clear w1 w2
    walk_at "rd"
    obtain ⟨d14, w1, w2⟩ := id e14
    refine ⟨a14, cs 14, d14, _, .str x, rfl, w1, w2, rfl, hX 14 (by decide), no14a, ?_⟩
    clear w1 w2
    walk_at "rd"
    refine ⟨by show 4 ≤ sizeLine; decide, fun m1 nm1 => ?_⟩
    obtain ⟨Hm1, hHH⟩ : ∃ HH, HH = upd G11 m1 (.lst [.str x, .str x, .str x, .str x]) := ⟨_, rfl⟩
    rw [← hHH]
    have U : Same G11 Hm1 := by rw [hHH]; exact same_new (fun _ _ e => e) nm1
    have hm1 : Hm1 m1 = some (.lst [.str x, .str x, .str x, .str x]) := by rw [hHH]; exact upd_same
    clear hHH
    have e14 := e14.same U
    have h2 := h2.same U
    have SS := same_trans SS U
    have hl1 := U _ _ hl1
    clear U
    refine ⟨l1, m1, _, _, rfl, rfl, hl1, hm1, by show 7 ≤ sizeLine; decide, fun l2 nl2 => ?_⟩
    obtain ⟨Hl2, hHH⟩ : ∃ HH, HH = upd Hm1 l2 (.lst [.str x, .str x, .str x, .str x, .str x, .str x, .str x]) := ⟨_, rfl⟩
    have U : Same Hm1 Hl2 := by rw [hHH]; exact same_new (fun _ _ e => e) nl2
    have hl2 : Hl2 l2 = some (.lst [.str x, .str x, .str x, .str x, .str x, .str x, .str x]) := by rw [hHH]; exact upd_same
    replace hHH : Hl2 = upd Hm1 l2 (.lst ([.str x, .str x, .str x] ++ [.str x, .str x, .str x, .str x])) := hHH
    rw [← hHH]
    clear hHH
    have e14 := e14.same U
    have h2 := h2.same U
    have SS := same_trans SS U
    have hl1 := U _ _ hl1
    have hm1 := U _ _ hm1
    clear U
    walk_at "rd"
    refine ⟨by show 1 ≤ 1000; decide, fun a2 n2 => ⟨a2, _, rfl, okn, upd_same, fun d G2 _ _ q1 q2 q3 => ⟨rfl, ?_⟩⟩⟩
    obtain ⟨e2, U2⟩ := EvX.e_new n2 q1 q2 q3
    clear q1 q2 q3
    have e14 := e14.same U2
    have h2 := h2.same U2
    have SS := same_trans SS U2
    have hl1 := U2 _ _ hl1
    have hm1 := U2 _ _ hm1
    have hl2 := U2 _ _ hl2
    clear U2
    obtain ⟨d2, w1, w2⟩ := e2
    refine ⟨a2, cs 2, d2, _, .int n, rfl, w1, w2, rfl, hX 2 (by decide), no2, ?_⟩
    clear w1 w2
    walk_at "rd"
    refine ⟨by show 1 ≤ 1000; decide, fun a4 n4 => ⟨a4, _, rfl, okn, upd_same, fun d G4 _ _ q1 q2 q3 => ⟨rfl, ?_⟩⟩⟩
    obtain ⟨e4, U4⟩ := EvX.e_new n4 q1 q2 q3
    clear q1 q2 q3
    have e14 := e14.same U4
    have h2 := h2.same U4
    have SS := same_trans SS U4
    have hl1 := U4 _ _ hl1
    have hm1 := U4 _ _ hm1
    have hl2 := U4 _ _ hl2
    clear U4
    obtain ⟨d4, w1, w2⟩ := e4
    refine ⟨a4, cs 4, d4, _, .int n, rfl, w1, w2, rfl, hX 4 (by decide), no4, ?_⟩
    clear w1 w2
    walk_at "rd"
    refine ⟨by show 1 ≤ 1000; decide, fun a6 n6 => ⟨a6, _, rfl, okn, upd_same, fun d G6 _ _ q1 q2 q3 => ⟨rfl, ?_⟩⟩⟩
    obtain ⟨e6, U6⟩ := EvX.e_new n6 q1 q2 q3
    clear q1 q2 q3
    have e14 := e14.same U6
    have h2 := h2.same U6
    have SS := same_trans SS U6
    have hl1 := U6 _ _ hl1
    have hm1 := U6 _ _ hm1
    have hl2 := U6 _ _ hl2
    clear U6
    obtain ⟨d6, w1, w2⟩ := e6
    refine ⟨a6, cs 6, d6, _, .int n, rfl, w1, w2, rfl, hX 6 (by decide), no6, ?_⟩
    clear w1 w2
    walk_at "rd"
    refine ⟨by show 3 ≤ sizeLine; decide, fun c1 nc1 => ?_⟩
    obtain ⟨Hc1, hHH⟩ : ∃ HH, HH = upd G6 c1 (.lst [.int n, .int n, .int n]) := ⟨_, rfl⟩
    rw [← hHH]
    have U : Same G6 Hc1 := by rw [hHH]; exact same_new (fun _ _ e => e) nc1
    have hc1 : Hc1 c1 = some (.lst [.int n, .int n, .int n]) := by rw [hHH]; exact upd_same
    clear hHH
    have e14 := e14.same U
    have h2 := h2.same U
    have SS := same_trans SS U
    have hl1 := U _ _ hl1
    have hm1 := U _ _ hm1
    have hl2 := U _ _ hl2
    clear U
    walk_at "rd"
    refine ⟨by show 1 ≤ 1000; decide, fun a7 n7 => ⟨a7, _, rfl, okn, upd_same, fun d G7 _ _ q1 q2 q3 => ⟨rfl, ?_⟩⟩⟩
    obtain ⟨e7, U7⟩ := EvX.e_new n7 q1 q2 q3
    clear q1 q2 q3
    have e14 := e14.same U7
    have h2 := h2.same U7
    have SS := same_trans SS U7
    have hl1 := U7 _ _ hl1
    have hm1 := U7 _ _ hm1
    have hl2 := U7 _ _ hl2
    have hc1 := U7 _ _ hc1
    clear U7
    obtain ⟨d7, w1, w2⟩ := e7
    refine ⟨a7, cs 7, d7, _, .int n, rfl, w1, w2, rfl, hX 7 (by decide), no7, ?_⟩
    clear w1 w2
    walk_at "rd"
    refine ⟨by show 1 ≤ 1000; decide, fun a8 n8 => ⟨a8, _, rfl, okn, upd_same, fun d G8 _ _ q1 q2 q3 => ⟨rfl, ?_⟩⟩⟩
    obtain ⟨e8, U8⟩ := EvX.e_new n8 q1 q2 q3
    clear q1 q2 q3
    have e14 := e14.same U8
    have h2 := h2.same U8
    have SS := same_trans SS U8
    have hl1 := U8 _ _ hl1
    have hm1 := U8 _ _ hm1
    have hl2 := U8 _ _ hl2
    have hc1 := U8 _ _ hc1
    clear U8
    obtain ⟨d8, w1, w2⟩ := e8
    refine ⟨a8, cs 8, d8, _, .int n, rfl, w1, w2, rfl, hX 8 (by decide), no8, ?_⟩
    clear w1 w2
    walk_at "rd"
    refine ⟨by show 1 ≤ 1000; decide, fun a9 n9 => ⟨a9, _, rfl, okn, upd_same, fun d G9 _ _ q1 q2 q3 => ⟨rfl, ?_⟩⟩⟩
    obtain ⟨e9, U9⟩ := EvX.e_new n9 q1 q2 q3
    clear q1 q2 q3
    have e14 := e14.same U9
    have h2 := h2.same U9
    have SS := same_trans SS U9
    have hl1 := U9 _ _ hl1
    have hm1 := U9 _ _ hm1
    have hl2 := U9 _ _ hl2
    have hc1 := U9 _ _ hc1
    clear U9
    obtain ⟨d9, w1, w2⟩ := e9
    refine ⟨a9, cs 9, d9, _, .int n, rfl, w1, w2, rfl, hX 9 (by decide), no9, ?_⟩
    clear w1 w2
    walk_at "rd"
    refine ⟨by show 3 ≤ sizeLine; decide, fun m2 nm2 => ?_⟩
    obtain ⟨Hm2, hHH⟩ : ∃ HH, HH = upd G9 m2 (.lst [.int n, .int n, .int n]) := ⟨_, rfl⟩
    rw [← hHH]
    have U : Same G9 Hm2 := by rw [hHH]; exact same_new (fun _ _ e => e) nm2
    have hm2 : Hm2 m2 = some (.lst [.int n, .int n, .int n]) := by rw [hHH]; exact upd_same
    clear hHH
    have e14 := e14.same U
    have h2 := h2.same U
    have SS := same_trans SS U
    have hl1 := U _ _ hl1
    have hm1 := U _ _ hm1
    have hl2 := U _ _ hl2
    have hc1 := U _ _ hc1
    clear U
    refine ⟨c1, m2, _, _, rfl, rfl, hc1, hm2, by show 6 ≤ sizeLine; decide, fun c2 nc2 => ?_⟩
    obtain ⟨Hc2, hHH⟩ : ∃ HH, HH = upd Hm2 c2 (.lst [.int n, .int n, .int n, .int n, .int n, .int n]) := ⟨_, rfl⟩
    have U : Same Hm2 Hc2 := by rw [hHH]; exact same_new (fun _ _ e => e) nc2
    have hc2 : Hc2 c2 = some (.lst [.int n, .int n, .int n, .int n, .int n, .int n]) := by rw [hHH]; exact upd_same
    replace hHH : Hc2 = upd Hm2 c2 (.lst ([.int n, .int n, .int n] ++ [.int n, .int n, .int n])) := hHH
    rw [← hHH]
    clear hHH
    have e14 := e14.same U
    have h2 := h2.same U
    have SS := same_trans SS U
    have hl1 := U _ _ hl1
    have hm1 := U _ _ hm1
    have hl2 := U _ _ hl2
    have hc1 := U _ _ hc1
    have hm2 := U _ _ hm2
    clear U
    walk_at "rd"
    refine ⟨by show 1 ≤ 1000; decide, fun a12 n12 => ⟨a12, _, rfl, okn, upd_same, fun d G12 _ _ q1 q2 q3 => ⟨rfl, ?_⟩⟩⟩
    obtain ⟨e12, U12⟩ := EvX.e_new n12 q1 q2 q3
    clear q1 q2 q3
    have e14 := e14.same U12
    have h2 := h2.same U12
    have SS := same_trans SS U12
    have hl1 := U12 _ _ hl1
    have hm1 := U12 _ _ hm1
    have hl2 := U12 _ _ hl2
    have hc1 := U12 _ _ hc1
    have hm2 := U12 _ _ hm2
    have hc2 := U12 _ _ hc2
    clear U12
    obtain ⟨d12, w1, w2⟩ := e12
    refine ⟨a12, cs 12, d12, _, .int n, rfl, w1, w2, rfl, hX 12 (by decide), no12, ?_⟩
    clear w1 w2
    walk_at "rd"
    refine ⟨by show 1 ≤ 1000; decide, fun a13 n13 => ⟨a13, _, rfl, okn, upd_same, fun d G13 _ _ q1 q2 q3 => ⟨rfl, ?_⟩⟩⟩
    obtain ⟨e13, U13⟩ := EvX.e_new n13 q1 q2 q3
    clear q1 q2 q3
    have e14 := e14.same U13
    have h2 := h2.same U13
    have SS := same_trans SS U13
    have hl1 := U13 _ _ hl1
    have hm1 := U13 _ _ hm1
    have hl2 := U13 _ _ hl2
    have hc1 := U13 _ _ hc1
    have hm2 := U13 _ _ hm2
    have hc2 := U13 _ _ hc2
    clear U13
    obtain ⟨d13, w1, w2⟩ := e13
    refine ⟨a13, cs 13, d13, _, .int n, rfl, w1, w2, rfl, hX 13 (by decide), no13, ?_⟩
    clear w1 w2
    walk_at "rd"
    refine ⟨by show 2 ≤ sizeLine; decide, fun m3 nm3 => ?_⟩
    obtain ⟨Hm3, hHH⟩ : ∃ HH, HH = upd G13 m3 (.lst [.int n, .int n]) := ⟨_, rfl⟩
    rw [← hHH]
    have U : Same G13 Hm3 := by rw [hHH]; exact same_new (fun _ _ e => e) nm3
    have hm3 : Hm3 m3 = some (.lst [.int n, .int n]) := by rw [hHH]; exact upd_same
    clear hHH
    have e14 := e14.same U
    have h2 := h2.same U
    have SS := same_trans SS U
    have hl1 := U _ _ hl1
    have hm1 := U _ _ hm1
    have hl2 := U _ _ hl2
    have hc1 := U _ _ hc1
    have hm2 := U _ _ hm2
    have hc2 := U _ _ hc2
    clear U
    refine ⟨c2, m3, _, _, rfl, rfl, hc2, hm3, by show 8 ≤ sizeLine; decide, fun c3 nc3 => ?_⟩
    obtain ⟨Hc3, hHH⟩ : ∃ HH, HH = upd Hm3 c3 (.lst [.int n, .int n, .int n, .int n, .int n, .int n, .int n, .int n]) := ⟨_, rfl⟩
    have U : Same Hm3 Hc3 := by rw [hHH]; exact same_new (fun _ _ e => e) nc3
    have hc3 : Hc3 c3 = some (.lst [.int n, .int n, .int n, .int n, .int n, .int n, .int n, .int n]) := by rw [hHH]; exact upd_same
    replace hHH : Hc3 = upd Hm3 c3 (.lst ([.int n, .int n, .int n, .int n, .int n, .int n] ++ [.int n, .int n])) := hHH
    rw [← hHH]
    clear hHH
    have e14 := e14.same U
    have h2 := h2.same U
    have SS := same_trans SS U
    have hl1 := U _ _ hl1
    have hm1 := U _ _ hm1
    have hl2 := U _ _ hl2
    have hc1 := U _ _ hc1
    have hm2 := U _ _ hm2
    have hc2 := U _ _ hc2
    have hm3 := U _ _ hm3
    clear U
    walk_at "rd"
    obtain ⟨d14, w1, w2⟩ := id e14
    obtain ⟨k1, p1, p2, k2, k3, k4⟩ := id h2
    refine ⟨a14, cs 14, d14, _, .ref sz, rfl, w1, w2, rfl, hX 14 (by decide), no14b, ?_⟩
    walk_at "rd"
    refine ⟨_, _, .tup (SqT.of k1) (.cons (.int _) (.cons (.int _) .nil)), .tup (SqT.of k1) (.cons (.int _) (.cons (.int _) .nil)), shaped_sz z, shaped_sz z, _, rfl, ?_⟩
    rw [self_eqv (shaped_sz z)]
    walk_at "rd"
    refine ⟨a14, cs 14, d14, _, .ref pr, rfl, w1, w2, rfl, hX 14 (by decide), no14c, ?_⟩
    walk_at "rd"
    refine ⟨_, _, .tup (SqT.of k2) (.cons (.tup (SqT.of k3) (.cons (.int _) (.cons (.str _) .nil))) (.cons (.tup (SqT.of k4) (.cons (.int _) (.cons (.str _) .nil))) .nil)), .tup (SqT.of k2) (.cons (.tup (SqT.of k3) (.cons (.int _) (.cons (.str _) .nil))) (.cons (.tup (SqT.of k4) (.cons (.int _) (.cons (.str _) .nil))) .nil)), shaped_pr z hx, shaped_pr z hx, _, rfl, ?_⟩
    rw [self_eqv (shaped_pr z hx)]
    walk_at "rd"
    refine ⟨by show 1 ≤ sizeLine; decide, fun r1 nr1 => ?_⟩
    have U := same_new (o := .lst [.str x]) (fun a u (e : Hc3 a = some u) => e) nr1
    have hr1 : upd Hc3 r1 (.lst [.str x]) r1 = some (.lst [.str x]) := upd_same
    generalize upd Hc3 r1 (.lst [.str x]) = Hr1 at U hr1
    have hl2 := U _ _ hl2
    have hc3 := U _ _ hc3
    have SS := same_trans SS U
    clear U
    walk_at "rd"
    refine ⟨r1, 7, [.str x], rfl, rfl, hr1, by decide, by decide, by show 1 * 7 ≤ sizeLine; decide, fun q1 nq1 => ?_⟩
    obtain ⟨Hq1, hHH⟩ : ∃ HH, HH = upd Hr1 q1 (.lst (List.replicate 7 [.str x]).flatten) := ⟨_, rfl⟩
    have U : Same Hr1 Hq1 := by rw [hHH]; exact same_new (fun _ _ e => e) nq1
    have hq1 : Hq1 q1 = some (.lst [.str x, .str x, .str x, .str x, .str x, .str x, .str x]) := by rw [hHH]; exact upd_same
    change Hq1 = upd Hr1 q1 (.lst (List.replicate ((7 : Int).toNat) [.str x]).flatten) at hHH
    rw [← hHH]
    clear hHH
    have hl2 := U _ _ hl2
    have hc3 := U _ _ hc3
    have SS := same_trans SS U
    clear U
    refine ⟨.list (datS [x, x, x, x, x, x, x]), .list (datS [x, x, x, x, x, x, x]), .lst (SqL.of hl2) (dpAll_s [x, x, x, x, x, x, x]), .lst (SqL.of hq1) (dpAll_s [x, x, x, x, x, x, x]), shaped_x hx _ (by simp), shaped_x hx _ (by simp), _, rfl, ?_⟩
    rw [self_eqv (shaped_x hx _ (by simp))]
    walk_at "rd"
    refine ⟨by show 1 ≤ sizeLine; decide, fun r2 nr2 => ?_⟩
    have U := same_new (o := .lst [.int n]) (fun a u (e : Hq1 a = some u) => e) nr2
    have hr2 : upd Hq1 r2 (.lst [.int n]) r2 = some (.lst [.int n]) := upd_same
    generalize upd Hq1 r2 (.lst [.int n]) = Hr2 at U hr2
    have hl2 := U _ _ hl2
    have hc3 := U _ _ hc3
    have SS := same_trans SS U
    clear U
    walk_at "rd"
    refine ⟨r2, 8, [.int n], rfl, rfl, hr2, by decide, by decide, by show 1 * 8 ≤ sizeLine; decide, fun q2 nq2 => ?_⟩
    obtain ⟨Hq2, hHH⟩ : ∃ HH, HH = upd Hr2 q2 (.lst (List.replicate 8 [.int n]).flatten) := ⟨_, rfl⟩
    have U : Same Hr2 Hq2 := by rw [hHH]; exact same_new (fun _ _ e => e) nq2
    have hq2 : Hq2 q2 = some (.lst [.int n, .int n, .int n, .int n, .int n, .int n, .int n, .int n]) := by rw [hHH]; exact upd_same
    change Hq2 = upd Hr2 q2 (.lst (List.replicate ((8 : Int).toNat) [.int n]).flatten) at hHH
    rw [← hHH]
    clear hHH
    have hl2 := U _ _ hl2
    have hc3 := U _ _ hc3
    have SS := same_trans SS U
    clear U
    refine ⟨.list (datN [n, n, n, n, n, n, n, n]), .list (datN [n, n, n, n, n, n, n, n]), .lst (SqL.of hc3) (dpAll_n [n, n, n, n, n, n, n, n]), .lst (SqL.of hq2) (dpAll_n [n, n, n, n, n, n, n, n]), shaped_n _, shaped_n _, _, rfl, ?_⟩
    rw [self_eqv (shaped_n _)]
    walk_at "rd"
    exact k _ SS
end
end Ow

set_option Elab.async false
set_option linter.all false
namespace Ow
open PySem PySem.Spec PyProof.Rows L2
/-! ### where an object stands, step by step back -/
theorem at_same {H H' : Hp} (s : Same H H') {a : Addr} {o : HO} (h : H a = some o) : H' a = some o := s _ _ h
theorem at_stay {b : Addr} {H H' : Hp} (s : Stay b H H') {a : Addr} {o : HO} (n : a ≠ b) (h : H a = some o) : H' a = some o := s _ _ n h
theorem at_new {H H' : Hp} {p : Addr} {o : HO} (N : upd H p o = H') : H' p = some o := by rw [← N]; exact upd_same
theorem at_old {H H' : Hp} {p : Addr} {o : HO} (N : upd H p o = H') {a : Addr} {u : HO} (n : a ≠ p) (h : H a = some u) : H' a = some u := by rw [← N]; exact (upd_ne n).trans h
theorem at_upd {H : Hp} {p a : Addr} {o u : HO} (n : a ≠ p) (h : H a = some u) : upd H p o a = some u := (upd_ne n).trans h
theorem ne_fr {H : Hp} {a b : Addr} {o : HO} (hb : H b = none) (ha : H a = some o) : a ≠ b := fun z => by rw [z, hb] at ha; cases ha
theorem ne_kd {H : Hp} {a b : Addr} {o u : HO} (ha : H a = some o) (hb : H b = some u) (d : o ≠ u) : a ≠ b := fun z => by
  rw [z, hb] at ha
  exact d (Option.some.inj ha).symm
theorem sm_new {H H1 H' : Hp} {p : Addr} {o : HO} (N : upd H1 p o = H') (s : Same H H1) (h : H p = none) : Same H H' := by rw [← N]; exact same_over s h
theorem ne_fx {H : Hp} {a b : Addr} (hb : H b = none) (ha : ∃ o, H a = some o) : a ≠ b := by
  obtain ⟨o, ha⟩ := ha
  exact ne_fr hb ha
theorem ne_kx {H : Hp} {a b : Addr} {o : HO} (ha : H a = some o) (hb : ∃ u, H b = some u ∧ o ≠ u) : a ≠ b := by
  obtain ⟨u, hb, d⟩ := hb
  exact ne_kd ha hb d
theorem ex_same {H H' : Hp} (s : Same H H') {a : Addr} (h : ∃ o, H a = some o) : ∃ o, H' a = some o := by
  obtain ⟨o, h⟩ := h
  exact ⟨o, s _ _ h⟩
theorem ex_upd {H : Hp} {p a : Addr} {o : HO} (h : ∃ o, H a = some o) : ∃ u, upd H p o a = some u := by
  obtain ⟨u, h⟩ := h
  by_cases e : a = p
  · rw [e]; exact ⟨_, upd_same⟩
  · exact ⟨_, (upd_ne e).trans h⟩
theorem ex_old {H H' : Hp} {p : Addr} {o : HO} (N : upd H p o = H') {a : Addr} (h : ∃ o, H a = some o) : ∃ u, H' a = some u := by rw [← N]; exact ex_upd h
theorem ex_stay {b : Addr} {H H' : Hp} (s : Stay b H H') {a : Addr} (n : a ≠ b) (h : ∃ o, H a = some o) : ∃ o, H' a = some o := by
  obtain ⟨o, h⟩ := h
  exact ⟨o, s _ _ n h⟩
/-! ### all stays but for some objects -/
def Keep (M : Addr → Prop) (H H' : Hp) : Prop := ∀ a o, ¬ M a → H a = some o → H' a = some o
theorem Keep.refl (M : Addr → Prop) (H : Hp) : Keep M H H := fun _ _ _ h => h
theorem Keep.trans {M : Addr → Prop} {H H1 H2 : Hp} (x : Keep M H H1) (y : Keep M H1 H2) : Keep M H H2 := fun a o n h => y a o n (x a o n h)
theorem Keep.same {M : Addr → Prop} {H H1 H2 : Hp} (x : Keep M H H1) (y : Same H1 H2) : Keep M H H2 := fun a o n h => y a o (x a o n h)
theorem Keep.of {M : Addr → Prop} {H H' : Hp} (s : Same H H') : Keep M H H' := fun a o _ h => s a o h
theorem Keep.stay {M : Addr → Prop} {H H1 H2 : Hp} {b : Addr} (x : Keep M H H1) (y : Stay b H1 H2) (hb : M b) : Keep M H H2 := fun a o n h => y a o (fun e => n (by rw [e]; exact hb)) (x a o n h)
theorem Keep.put {M : Addr → Prop} {H H1 : Hp} {b : Addr} {o : HO} (x : Keep M H H1) (hb : M b) : Keep M H (upd H1 b o) := fun a u n h => (upd_ne fun e => n (by rw [e]; exact hb)).trans (x a u n h)
theorem Keep.new {M : Addr → Prop} {H H1 : Hp} {p : Addr} {o : HO} (x : Keep M H H1) (hp : H1 p = none) : Keep M H (upd H1 p o) := fun a u n h => (upd_ne (ne_of_none (x a u n h) hp)).trans (x a u n h)
theorem TripsAt.keep {M : Addr → Prop} {H H' : Hp} {l : Addr} {ts : Ts} (h : TripsAt H l ts) (s : Keep M H H') (hl : ¬ M l) (ht : ∀ a xs, H a = some (.tup xs) → ¬ M a) : TripsAt H' l ts := by
  obtain ⟨xs, h1, h2⟩ := h
  exact ⟨xs, s _ _ hl h1, paired_map (fun _ _ q => by
    obtain ⟨a, e, h⟩ := q
    exact ⟨a, e, s _ _ (ht _ _ h) h⟩) h2⟩
theorem DomIn.keep {M : Addr → Prop} {C : Addr} {H H' : Hp} {p : Addr} {wm : Ws} {ts : Ts} {dx d l : Addr} (h : DomIn C H p wm ts dx d l) (s : Keep M H H') (hp : ¬ M p) (hd : ¬ M d) (hl : ¬ M l) (ht : ∀ a xs, H a = some (.tup xs) → ¬ M a) : DomIn C H' p wm ts dx d l :=
  ⟨s _ _ hp h.1, ⟨s _ _ hd h.2.1.at_, h.2.1.nd⟩, h.2.2.keep s hl ht⟩
theorem Keep.mono {M M' : Addr → Prop} {H H' : Hp} (x : Keep M H H') (f : ∀ a, M a → M' a) : Keep M' H H' := fun a o n h => x a o (fun e => n (f a e)) h
theorem Keep.unlock {M : Addr → Prop} {H H' : Hp} {d : Addr} {o : Obj} {u : HO} (x : Keep M (upd H d (.frz o u)) H') (h : H d = some u) : Keep M H (upd H' d u) := fun a v n e => by
  by_cases z : a = d
  · subst z
    rw [h] at e
    rw [upd_same]
    exact e
  · rw [upd_ne z]
    exact x a v n ((upd_ne z).trans e)
theorem Keep.lock {M : Addr → Prop} {H : Hp} {d : Addr} {u : HO} (hd : ¬ M d) : ∀ {a : Addr} {v : HO}, a ≠ d → H a = some v → upd H d u a = some v := fun n e => (upd_ne n).trans e
theorem Keep.since {M : Addr → Prop} {H H1 H2 : Hp} (s : Same H H1) (x : Keep M H1 H2) (f : ∀ a, M a → H a = none) : Same H H2 := fun a o e => x a o (fun m => by rw [f a m] at e; cases e) (s a o e)
theorem funD_ok0 {P : Program} {w : World} {K : PySem.W.Frag} {mg : Str → Option Value} {base : Heap} {x qual : Str} {params : Arguments} {body : List Stmt} {scope : Scope} {dvs : List V} {kws : List (Str × V)} {f : Addr} {fd : FuncData} {N ps : List Str} {k : Nat} {sp : Sp} (F : FunD K x qual params body scope dvs kws f fd) (S : FnScope N ps scope) (len : ∀ vs H Q E, sp vs H Q E → vs.length = ps.length)
    (hbody : ∀ (cdv : Value) (A : Around) (outer : List Env) (s : Shared) (H : Hp) (vs : List V) (Q : VK) (E : XK), Room k (A.deeper (envOfC qual scope s.heap.objs.size f cdv)) → sp vs H Q E →
      ∃ t, PSs (cxOf CX0 P w K mg base N qual scope f cdv A outer s H E).nox body t ∧ t { nx := fun _ H' => Q .non H', rt := Q } (L2.start N vs) H) : FnOk P w K mg base CX0 (k + 1) f fd ps sp := by
  refine FunD.ok F S len fun cdv A outer s H vs Q E hr hsp => ?_
  obtain ⟨t, h, q⟩ := hbody cdv A outer s H vs Q E hr hsp
  exact ⟨t, h.nox, q⟩
end Ow

set_option Elab.async false
set_option linter.all false
set_option maxRecDepth 100000
set_option maxHeartbeats 8000000
namespace Ow
open PySem PySem.Spec PyProof.Rows L2 ErX
local macro_rules | `(tactic| walk_at "rd") => `(tactic| repeat (first | (refine ⟨_, rfl, ?_⟩) | (refine ⟨_, _, rfl, rfl, ?_⟩) | (refine ⟨rfl, ?_⟩) | (refine ⟨_, _, rfl, ?_⟩) | (refine Or.inl ⟨_, rfl, ?_⟩) | (refine ⟨(by first | (show (0 : Int) < (_ : Int); decide) | exact Or.inl ⟨by decide, by decide⟩ | exact Or.inr ⟨by decide, by decide⟩ | exact ⟨by decide, by decide⟩ | exact ⟨by decide, by decide, by decide⟩), ?_⟩)))
def datB (l : List Bool) : List PyData := l.map PyData.bool
theorem dpAll_b {K : PySem.W.Frag} {H : Hp} : ∀ l : List Bool, DpAll K H (l.map V.bl) (datB l)
  | [] => .nil
  | x :: l => .cons (.bl _) (dpAll_b l)
theorem shaped_b : ∀ l : List Bool, SeqAt.shaped (.list (datB l)) = true := fun l => by
  have a : PyData.canLayAll0 (datB l) = true := by
    induction l with
    | nil => rfl
    | cons x l ih => exact ih
  have b : PyData.depthAll (datB l) = 0 := by
    clear a
    induction l with
    | nil => rfl
    | cons x l ih =>
      show max (PyData.depth (.bool x)) (PyData.depthAll (datB l)) = 0
      rw [ih]
      simp [PyData.depth]
  unfold SeqAt.shaped
  rw [Bool.and_eq_true]
  refine ⟨a, decide_eq_true ?_⟩
  show PyData.depthAll (datB l) + 1 ≤ 64
  omega
def isL (j n : Nat) : List Bool := (List.range n).map fun q => decide (j = q)
theorem isL_succ (j n : Nat) : (isL j (n + 1)).map V.bl = (isL j n).map V.bl ++ [V.bl (decide (j = n))] := by
  unfold isL
  rw [List.range_succ, List.map_append, List.map_append]
  rfl
theorem bls_is (j : Nat) : bls (fun i => decide (j = i)) = (isL j 15).map V.bl := by
  unfold bls isL
  rw [List.map_map]
  rfl
theorem shaped_1 (n : Int) : SeqAt.shaped (.tuple [.int n]) = true := rfl
theorem shaped_11 {x : Str} (n : Int) (hx : Sm x) : SeqAt.shaped (.tuple [.tuple [.int n, .str x]]) = true := by
  unfold SeqAt.shaped
  rw [Bool.and_eq_true]
  refine ⟨?_, decide_eq_true ?_⟩
  · show ((true && (PyData.strOk x && true)) && true) = true
    rw [hx.ok]
    rfl
  · simp [PyData.depth, PyData.depthAll]
theorem gName_go {i : Nat} {v : V} {σ : L2.St} {H : Hp} {Q : L2.St → Hp → Prop} (h : Q (σ.set i (some v)) H) : gName i v σ H Q := h
section
variable {P : Program} {w : World} {K : PySem.W.Frag} {mg : Str → Option Value} {base : Heap} {cs : Nat → Addr} {CO : Addr}
abbrev s_law : Stmt := top 25
theorem sc_law : FnScope ["script", "place", "bag", "made", "k", "bare", "count", "text", "sizes", "pairs", "one"] ["script"] (defScope s_law) := ⟨rfl, rfl, rfl, by decide +kernel, rfl, by decide +kernel, by decide +kernel⟩
theorem ok_law {f : Addr} {fd : FuncData} (F : Fun K "law" "law" s_law f fd) (T : Txt mg) (nVE : mg "ValueError" = none) (gO : mg "OwedError" = some (.ref CO)) (exO : PySem.W.excIn K CO [.type "ValueError", .type "Exception", .type "BaseException", .type "object"] "ValueError.__new__" = true) (kO : PySem.W.keepIn K (.ref CO) = true)
  (c_bag : Cal P w K mg base "_law_bag" 1 (spBag K)) (c_number : Cal P w K mg base "_law_number" 2 spNumber) (c_pick : Cal P w K mg base "_law_of" 2 spPick) (c_fields : Cal P w K mg base "_law_fields" 4 spFields) (c_made : Cal P w K mg base "_law_made" 4 (spMade cs)) (c_classes : Cal P w K mg base "_law_classes" 1 (spClasses K cs))
  (hX : ∀ i, i < 15 → XfC K (cs i)) (hE : ∀ i, i < 15 → L2.ExcC K (cs i)) (hEO : L2.ExcC K CO) (no3 : PySem.W.findIn K (.ref (cs 3)) "what" = some none) (no5 : PySem.W.findIn K (.ref (cs 5)) "half" = some none) (no9 : PySem.W.findIn K (.ref (cs 9)) "row" = some none) (no14a : PySem.W.findIn K (.ref (cs 14)) "kind" = some none) (no14b : PySem.W.findIn K (.ref (cs 14)) "lengths" = some none) (no14c : PySem.W.findIn K (.ref (cs 14)) "moves" = some none)
  (kit : ∀ i j, i < 15 → j < 15 → PySem.W.kitOne K (.ref (cs i)) (.ref (cs j)) = some (decide (i = j))) (kitO : ∀ i, i < 15 → PySem.W.kitOne K (.ref (cs i)) (.ref CO) = some true) (kitV : ∀ i, i < 15 → PySem.W.kitOne K (.ref (cs i)) (.type "ValueError") = some true)
  (kitC : ∀ i, i < 15 → PySem.W.kitOne K (.ref CO) (.ref (cs i)) = some false) (kitCV : PySem.W.kitOne K (.ref CO) (.type "ValueError") = some true) : FnOk P w K mg base CX0 6 f fd ["script"] (spLaw K) := by
  refine F.ok sc_law (fun vs H Q E h => ?_) (fun cdv A outer s H vs Q E hr h => ?_)
  · obtain ⟨a, ns, rfl, _⟩ := h
    rfl
  · obtain ⟨a, ns, rfl, hS, hl, k⟩ := h
    have hu := hu_of hr
    refine ⟨_, (pss_cons (ps_for PassesOwn.never rfl (pi_range1 rfl T.n_range (pa_cons (pe_callB (call_max2 rfl) (by rfl) T.n_max (by decide +kernel) (pa_cons pe_int (pa_cons (pe_callB (call_min2 rfl) (by rfl) T.n_min (by decide +kernel) (pa_cons pe_int (pa_cons (pe_callB call_len_seq (by rfl) T.n_len (by decide +kernel) (pa_cons (pv 0) pa_nil)) pa_nil))) pa_nil))) pa_nil)) (pg_name (i := 1) sc_law.nd rfl (Or.inl rfl))
      (pss_cons (ps_set (i := 2) sc_law.nd rfl (Or.inl rfl) (pe_cal c_bag (hr.mono (by decide)) (pa_cons (pv 0) (pa_cons (pv 1) pa_nil))))
      (pss_cons (ps_par (i := 6) (j := 7) (by rfl) sc_law.nd rfl rfl (by decide) rfl rfl (pa_cons (pe_cal c_number (hr.mono (by decide)) (pa_cons (pv 2) pa_nil)) (pa_cons (pe_cal c_pick (hr.mono (by decide)) (pa_cons (pv 2) (pa_cons (pe_lst (pa_cons pe_str (pa_cons pe_str (pa_cons pe_str (pa_cons pe_str (pa_cons pe_str (pa_cons pe_str pa_nil))))))) pa_nil))) pa_nil)) (by rfl))
      (pss_cons (ps_par (i := 8) (j := 9) (by rfl) sc_law.nd rfl rfl (by decide) rfl rfl (pa_cons (pe_tup (pa_cons (pe_callB call_abs (by rfl) T.n_abs (by decide +kernel) (pa_cons (pv 6) pa_nil)) (pa_cons pe_int pa_nil))) (pa_cons (pe_tup (pa_cons (pe_tup (pa_cons pe_int (pa_cons pe_str pa_nil))) (pa_cons (pe_tup (pa_cons (pe_callB call_abs (by rfl) T.n_abs (by decide +kernel) (pa_cons (pv 6) pa_nil)) (pa_cons (pv 7) pa_nil))) pa_nil))) pa_nil)) (by rfl))
      (pss_cons (ps_if (pt_not (pt_val (pe_cal c_fields (hr.mono (by decide)) (pa_cons (pv 6) (pa_cons (pv 7) (pa_cons (pv 8) (pa_cons (pv 9) pa_nil))))))) (pss_one (ps_ret pe_bl)) pss_nil)
      (pss_cons (ps_set (i := 3) sc_law.nd rfl (Or.inl rfl) (pe_cal c_made (hr.mono (by decide)) (pa_cons (pv 6) (pa_cons (pv 7) pa_nil))))
      (pss_cons (ps_for PassesOwn.never rfl (pi_range1 rfl T.n_range (pa_cons pe_int pa_nil)) (pg_name (i := 4) sc_law.nd rfl (Or.inr rfl))
      (pss_cons (ps_if (pt_cmpR (op_neD hr.units) (pe_cal c_classes (hr.mono (by decide)) (pa_cons (pe_ix ix_list (pv 3) (pv 4) (fun _ _ => rfl)) pa_nil)) (pe_lc (own := [("one", 10)]) (g := gName 10) (by rfl) sc_law.nd (pi_range1 rfl T.n_range (pa_cons pe_int pa_nil)) (blkOk_by (own := [("one", 10)]) (N := ["script", "place", "bag", "made", "k", "bare", "count", "text", "sizes", "pairs", "one"]) (sc := defScope s_law) (by decide +kernel)) (fun _ _ _ _ _ => (pg_name (i := 10) sc_law.nd rfl (Or.inl rfl))) (fun _ _ _ _ _ => pts_nil) (fun _ _ _ _ _ => (pe_cmpR op_eq (pv 10) (pv 4) (nomark _)))) (nomark _)) (pss_one (ps_ret pe_bl)) pss_nil)
      (pss_one (ps_if (PW.pt (pw_or (pt_not (pt_val (pe_callB EvX.call_isV (by rfl) T.n_isinstance (by decide +kernel) (pa_cons (pe_ix ix_list (pv 3) (pv 4) (fun _ _ => rfl)) (pa_cons (pe_glob (v := .ref CO) rfl gO rfl) pa_nil))))) (pw_or1 (pt_not (pt_val (pe_callB EvX.call_isV (by rfl) T.n_isinstance (by decide +kernel) (pa_cons (pe_ix ix_list (pv 3) (pv 4) (fun _ _ => rfl)) (pa_cons (pe_bltn (v := .ty "ValueError") rfl nVE rfl rfl) pa_nil)))))))) (pss_one (ps_ret pe_bl)) pss_nil))))
      (pss_cons (ps_if (PW.pt (pw_or (pt_cmpR op_ne (EvX.pe_fv (pe_ix ix_list (pv 3) pe_int (fun _ _ => rfl))) (pv 7) (nomark _)) (pw_or (pt_cmpR op_ne (EvX.pe_fv (pe_ix ix_list (pv 3) pe_int (fun _ _ => rfl))) (pv 7) (nomark _)) (pw_or1 (pt_cmpR op_ne (EvX.pe_fv (pe_ix ix_list (pv 3) pe_int (fun _ _ => rfl))) (pv 6) (nomark _)))))) (pss_one (ps_ret pe_bl)) pss_nil)
      (pss_cons (ps_if (PW.pt (pw_or (pt_cmpR op_ne (EvX.pe_fv (pe_ix ix_list (pv 3) pe_int (fun _ _ => rfl))) (pv 7) (nomark _)) (pw_or (pt_cmpR (op_neD hr.units) (EvX.pe_fv (pe_ix ix_list (pv 3) pe_int (fun _ _ => rfl))) (pe_tup (pa_cons (pv 6) pa_nil)) (nomark _)) (pw_or1 (pt_cmpR (op_neD hr.units) (EvX.pe_fv (pe_ix ix_list (pv 3) pe_int (fun _ _ => rfl))) (pe_tup (pa_cons (pe_tup (pa_cons (pv 6) (pa_cons (pv 7) pa_nil))) pa_nil)) (nomark _)))))) (pss_one (ps_ret pe_bl)) pss_nil)
      (pss_cons (ps_set (i := 5) sc_law.nd rfl (Or.inl rfl) (pe_exc1 PySem.F.excBase_ValueError exO gO kO rfl pe_str))
      (pss_one (ps_if (PW.pt (pw_or (pt_cmpR op_in_seq pe_bl (pe_cal c_classes (hr.mono (by decide)) (pa_cons (pv 5) pa_nil)) rfl) (pw_or1 (pt_not (pt_val (pe_callB EvX.call_isV (by rfl) T.n_isinstance (by decide +kernel) (pa_cons (pv 5) (pa_cons (pe_bltn (v := .ty "ValueError") rfl nVE rfl rfl) pa_nil)))))))) (pss_one (ps_ret pe_bl)) pss_nil))))))))))))
      (pss_one (ps_ret pe_bl))), ?_⟩
    walk_at "rd"
    refine ⟨a, _, rfl, .inl hS, ?_⟩
    rw [List.length_map]
    walk_at "rd"
    refine ⟨?_, ?_, ?_⟩
    · have hm : -(2 ^ 62) ≤ (if (if (ns.length : Int) < 12 then (ns.length : Int) else 12) > 1 then (if (ns.length : Int) < 12 then (ns.length : Int) else 12) else 1) := by
        split <;> split <;> omega
      exact hm
    · have hm : (if (if (ns.length : Int) < 12 then (ns.length : Int) else 12) > 1 then (if (ns.length : Int) < 12 then (ns.length : Int) else 12) else 1) < 2 ^ 62 := by
        split <;> split <;> omega
      exact hm
    have hm : (if (if (ns.length : Int) < 12 then (ns.length : Int) else 12) > 1 then (if (ns.length : Int) < 12 then (ns.length : Int) else 12) else 1).toNat ≤ 12 := by
      split <;> split <;> omega
    refine for_range (lo := 0) (fun i σ H' => ∃ (o1 o2 o3 o4 o5 o6 o7 o8 o9 o10 : Option V), σ = [some (.ref a), o1, o2, o3, o4, o5, o6, o7, o8, o9, o10] ∧ Same H H') ⟨none, none, none, none, none, none, none, none, none, none, rfl, fun _ _ e => e⟩ ?_ ?_
    · rintro i σ H' hi ⟨o1, o2, o3, o4, o5, o6, o7, o8, o9, o10, rfl, S⟩
      have hi12 : i < 12 := Nat.lt_of_lt_of_le hi hm
      walk_at "rd"
      refine ⟨a, ns, i, by rw [Int.zero_add], S.seq hS, hl, by omega, fun b H1 hb hB1 S1 => ?_⟩
      have hb0 : H b = none := none_back S hb
      have SH := same_trans S S1
      clear S S1 hb
      walk_at "rd"
      refine ⟨b, 0, rfl, hB1, by omega, fun n H2 hn B2 S2 => ?_⟩
      have SH := same_stay SH hb0 S2
      clear S2 hB1
      walk_at "rd"
      refine ⟨by show 6 ≤ sizeLine; decide, fun l hl => ?_⟩
      have U := same_new (o := .lst [.str "", .str "out", .str "both", .str "zz9", .str "rows", .str "stale"]) (fun a u (e : H2 a = some u) => e) hl
      have lb : l ≠ b := fun z => by
        obtain ⟨ys, e⟩ := B2.lst
        rw [← z, hl] at e
        cases e
      have B3 := B2.same U
      have SH := same_trans SH U
      have hl3 : upd H2 l (.lst [.str "", .str "out", .str "both", .str "zz9", .str "rows", .str "stale"]) l = some (.lst [.str "", .str "out", .str "both", .str "zz9", .str "rows", .str "stale"]) := upd_same
      generalize upd H2 l (.lst [.str "", .str "out", .str "both", .str "zz9", .str "rows", .str "stale"]) = H3 at SH B3 hl3
      clear U B2 hl
      refine ⟨b, l, _, _, rfl, B3, by omega, hl3, lb, by decide, by decide, fun j v H4 hv B4 S4 => ?_⟩
      obtain ⟨x, rfl, hx⟩ : ∃ x, v = .str x ∧ Sm x := by
        have hv := List.mem_of_getElem? hv
        simp only [List.mem_cons, List.not_mem_nil, or_false] at hv
        rcases hv with rfl | rfl | rfl | rfl | rfl | rfl
        all_goals exact ⟨_, rfl, ⟨by decide +kernel, by decide +kernel⟩⟩
      have SH := same_stay SH hb0 S4
      clear S4 B4 B3 hl3 hv lb hb0
      walk_at "rd"
      obtain ⟨z, hz⟩ : ∃ z : Int, z = if n < 0 then -n else n := ⟨_, rfl⟩
      rw [← hz]
      refine ⟨by show 2 ≤ sizeLine; decide, fun sz hsz => ?_⟩
      have U := same_new (o := .tup [.int z, .int 0]) (fun a u (e : H4 a = some u) => e) hsz
      have k1 : upd H4 sz (.tup [.int z, .int 0]) sz = some (.tup [.int z, .int 0]) := upd_same
      have SH := same_trans SH U
      clear U
      generalize upd H4 sz (.tup [.int z, .int 0]) = H5 at SH k1
      walk_at "rd"
      refine ⟨by show 2 ≤ sizeLine; decide, fun p1 hp1 => ?_⟩
      have U := same_new (o := .tup [.int 3, .str "go"]) (fun a u (e : H5 a = some u) => e) hp1
      have k2 : upd H5 p1 (.tup [.int 3, .str "go"]) p1 = some (.tup [.int 3, .str "go"]) := upd_same
      have k1 := U _ _ k1
      have SH := same_trans SH U
      clear U
      generalize upd H5 p1 (.tup [.int 3, .str "go"]) = H6 at SH k1 k2
      walk_at "rd"
      rw [← hz]
      walk_at "rd"
      refine ⟨by show 2 ≤ sizeLine; decide, fun p2 hp2 => ?_⟩
      have U := same_new (o := .tup [.int z, .str x]) (fun a u (e : H6 a = some u) => e) hp2
      have k3 : upd H6 p2 (.tup [.int z, .str x]) p2 = some (.tup [.int z, .str x]) := upd_same
      have k1 := U _ _ k1
      have k2 := U _ _ k2
      have SH := same_trans SH U
      clear U
      generalize upd H6 p2 (.tup [.int z, .str x]) = H7 at SH k1 k2 k3
      walk_at "rd"
      refine ⟨by show 2 ≤ sizeLine; decide, fun pr hpr => ?_⟩
      have U := same_new (o := .tup [.ref p1, .ref p2]) (fun a u (e : H7 a = some u) => e) hpr
      have k4 : upd H7 pr (.tup [.ref p1, .ref p2]) pr = some (.tup [.ref p1, .ref p2]) := upd_same
      have k1 := U _ _ k1
      have k2 := U _ _ k2
      have k3 := U _ _ k3
      have SH := same_trans SH U
      clear U
      generalize upd H7 pr (.tup [.ref p1, .ref p2]) = H8 at SH k1 k2 k3 k4
      have hn60 : n.natAbs < 10 ^ 60 := Nat.lt_of_le_of_lt hn (by decide)
      walk_at "rd"
      refine ⟨n, z, x, sz, pr, rfl, hn60, hx, ⟨k1, p1, p2, k4, k2, k3⟩, fun H9 S9 => ?_⟩
      have SH := same_trans SH S9
      clear S9 k1 k2 k3 k4
      walk_at "rd"
      refine ⟨hn60, hx, fun l lg mv t as fs H10 hl hll hA f3 f5 f9 f14 hlg ht hmv S10 => ?_⟩
      have SH := same_trans SH S10
      have ix : ∀ {i : Nat}, i < 15 → (refs as)[i]? = some (.ref (as i)) := fun {i} hi => by
        unfold refs
        rw [List.getElem?_map, List.getElem?_range hi]
        rfl
      walk_at "rd"
      refine ⟨by decide, by decide, ?_⟩
      refine for_range (lo := 0) (fun j σ H' => ∃ (o4 o10 : Option V), σ = [some (.ref a), some (.int (0 + (i : Int))), some (.ref b), some (.ref l), o4, o5, some (.int n), some (.str x), some (.ref sz), some (.ref pr), o10] ∧ Same H10 H') ⟨_, _, rfl, fun _ _ e => e⟩ ?_ ?_
      · rintro j σ H' hj ⟨o4, o10, rfl, SJ⟩
        have hj : j < 15 := hj
        have eJ := (hA j hj).err
        walk_at "rd"
        refine ⟨l, refs as, (j : Int), _, rfl, by rw [Int.zero_add], SqL.of (SJ _ _ hll), atI_nat (ix hj), ?_⟩
        refine ⟨as j, cs j, fun i => decide (j = i), rfl, err_same eJ SJ, hE j hj, fun i hi => kit j i hj hi, fun l2 HA hl2 hl2' SA => ?_⟩
        rw [bls_is] at hl2'
        walk_at "rd"
        refine ⟨by decide, by decide, fun D hD => lc_it (walk_range (lo := 0) (n := 15)) (fun q H' => H' D = some (.lst ((isL j q).map V.bl)) ∧ Same HA H') ⟨upd_same, same_new (fun _ _ e => e) hD⟩ (fun _ _ _ _ => trivial) ?_ ?_⟩
        · rintro q v H0 HB hq ⟨ha, S5⟩ ⟨rfl, rfl⟩
          refine ⟨rfl, ?_⟩
          walk_at "rd"
          refine ⟨_, ha, ?_, ?_, same_over S5 hD⟩
          · rw [List.length_map]
            unfold isL
            rw [List.length_map, List.length_range]
            exact Nat.lt_of_lt_of_le (m := 64) (by omega) (by decide)
          · rw [upd_same, isL_succ]
            have e : decide (V.int (0 + (q : Int)) = V.int (0 + (j : Int))) = decide (j = q) := by
              rw [Bool.eq_iff_iff, decide_eq_true_iff, decide_eq_true_iff, V.int.injEq]
              omega
            rw [e]
        · rintro HB ⟨ha, S5⟩
          refine ⟨.list (datB (isL j 15)), .list (datB (isL j 15)), .lst (SqL.of (S5 _ _ hl2')) (dpAll_b _), .lst (SqL.of ha) (dpAll_b _), shaped_b _, shaped_b _, _, rfl, ?_⟩
          rw [self_eqv (shaped_b _)]
          refine ite2 (fun h => absurd h (by simp)) (fun _ => ?_)
          have SB := same_trans (same_trans SJ SA) S5
          walk_at "rd"
          refine ⟨l, refs as, (j : Int), _, rfl, by rw [Int.zero_add], SqL.of (SB _ _ hll), atI_nat (ix hj), ?_⟩
          walk_at "rd"
          refine ⟨as j, cs j, _, _, _, rfl, err_same eJ SB, hE j hj, fun _ h => h, kitO j hj, ?_⟩
          walk_at "rd"
          refine ⟨l, refs as, (j : Int), _, rfl, by rw [Int.zero_add], SqL.of (SB _ _ hll), atI_nat (ix hj), ?_⟩
          walk_at "rd"
          refine ⟨as j, cs j, _, _, _, rfl, err_same eJ SB, hE j hj, fun _ h => h, kitV j hj, ?_⟩
          refine ⟨_, rfl, ?_⟩
          first
            | exact ⟨_, _, rfl, SB⟩
            | (refine ite2 (fun h => absurd h (by simp)) (fun _ => ?_); exact ⟨_, _, rfl, SB⟩)
      · rintro σ H' ⟨o4, o10, rfl, SJ⟩
        have hll := SJ _ _ hll
        obtain ⟨d3, a31, a32⟩ := (hA 3 (by decide)).same SJ
        obtain ⟨d5, a51, a52⟩ := (hA 5 (by decide)).same SJ
        obtain ⟨d9, a91, a92⟩ := (hA 9 (by decide)).same SJ
        obtain ⟨d14, b1, b2⟩ := (hA 14 (by decide)).same SJ
        have hlg := SJ _ _ hlg
        have ht := SJ _ _ ht
        have hmv := SJ _ _ hmv
        have SH := same_trans SH SJ
        walk_at "rd"
        refine ⟨l, refs as, 3, _, rfl, rfl, SqL.of hll, atI_nat (ix (i := 3) (by decide)), ?_⟩
        refine ⟨as 3, cs 3, d3, _, .str x, rfl, a31, a32, by rw [f3]; rfl, hX 3 (by decide), no3, ?_⟩
        walk_at "rd"
        refine ite2 (fun h => absurd h (by simp)) (fun _ => ?_)
        walk_at "rd"
        refine ⟨l, refs as, 5, _, rfl, rfl, SqL.of hll, atI_nat (ix (i := 5) (by decide)), ?_⟩
        refine ⟨as 5, cs 5, d5, _, .str x, rfl, a51, a52, by rw [f5]; rfl, hX 5 (by decide), no5, ?_⟩
        walk_at "rd"
        refine ite2 (fun h => absurd h (by simp)) (fun _ => ?_)
        walk_at "rd"
        refine ⟨l, refs as, 9, _, rfl, rfl, SqL.of hll, atI_nat (ix (i := 9) (by decide)), ?_⟩
        refine ⟨as 9, cs 9, d9, _, .int n, rfl, a91, a92, by rw [f9]; rfl, hX 9 (by decide), no9, ?_⟩
        walk_at "rd"
        refine ite2 (fun h => absurd h (by simp)) (fun _ => ?_)
        walk_at "rd"
        refine ⟨l, refs as, 14, _, rfl, rfl, SqL.of hll, atI_nat (ix (i := 14) (by decide)), ?_⟩
        refine ⟨as 14, cs 14, d14, _, .str x, rfl, b1, b2, by rw [f14]; rfl, hX 14 (by decide), no14a, ?_⟩
        walk_at "rd"
        refine ite2 (fun h => absurd h (by simp)) (fun _ => ?_)
        walk_at "rd"
        refine ⟨l, refs as, 14, _, rfl, rfl, SqL.of hll, atI_nat (ix (i := 14) (by decide)), ?_⟩
        refine ⟨as 14, cs 14, d14, _, .ref lg, rfl, b1, b2, by rw [f14]; rfl, hX 14 (by decide), no14b, ?_⟩
        walk_at "rd"
        refine ⟨by show 1 ≤ sizeLine; decide, fun u1 nu1 => ?_⟩
        have U := same_new (o := .tup [.int n]) (fun a u (e : H' a = some u) => e) nu1
        have hu1 : upd H' u1 (.tup [.int n]) u1 = some (.tup [.int n]) := upd_same
        generalize upd H' u1 (.tup [.int n]) = H11 at U hu1
        have hll := U _ _ hll
        have b1 := U _ _ b1
        have b2 := U _ _ b2
        have hlg := U _ _ hlg
        have ht := U _ _ ht
        have hmv := U _ _ hmv
        have SH := same_trans SH U
        clear U
        refine ⟨_, _, .tup (SqT.of hlg) (.cons (.int _) .nil), .tup (SqT.of hu1) (.cons (.int _) .nil), shaped_1 n, shaped_1 n, _, rfl, ?_⟩
        rw [self_eqv (shaped_1 n)]
        refine ite2 (fun h => absurd h (by simp)) (fun _ => ?_)
        walk_at "rd"
        refine ⟨l, refs as, 14, _, rfl, rfl, SqL.of hll, atI_nat (ix (i := 14) (by decide)), ?_⟩
        refine ⟨as 14, cs 14, d14, _, .ref mv, rfl, b1, b2, by rw [f14]; rfl, hX 14 (by decide), no14c, ?_⟩
        walk_at "rd"
        refine ⟨by show 2 ≤ sizeLine; decide, fun u2 nu2 => ?_⟩
        have U := same_new (o := .tup [.int n, .str x]) (fun a u (e : H11 a = some u) => e) nu2
        have hu2 : upd H11 u2 (.tup [.int n, .str x]) u2 = some (.tup [.int n, .str x]) := upd_same
        generalize upd H11 u2 (.tup [.int n, .str x]) = H12 at U hu2
        have ht := U _ _ ht
        have hmv := U _ _ hmv
        have SH := same_trans SH U
        clear U
        walk_at "rd"
        refine ⟨by show 1 ≤ sizeLine; decide, fun u3 nu3 => ?_⟩
        have U := same_new (o := .tup [.ref u2]) (fun a u (e : H12 a = some u) => e) nu3
        have hu3 : upd H12 u3 (.tup [.ref u2]) u3 = some (.tup [.ref u2]) := upd_same
        generalize upd H12 u3 (.tup [.ref u2]) = H13 at U hu3
        have ht := U _ _ ht
        have hmv := U _ _ hmv
        have hu2 := U _ _ hu2
        have SH := same_trans SH U
        clear U
        refine ⟨_, _, .tup (SqT.of hmv) (.cons (.tup (SqT.of ht) (.cons (.int _) (.cons (.str _) .nil))) .nil), .tup (SqT.of hu3) (.cons (.tup (SqT.of hu2) (.cons (.int _) (.cons (.str _) .nil))) .nil), shaped_11 n hx, shaped_11 n hx, _, rfl, ?_⟩
        rw [self_eqv (shaped_11 n hx)]
        refine ite2 (fun h => absurd h (by simp)) (fun _ => ?_)
        walk_at "rd"
        refine fun y hy => ?_
        have U := same_new (o := ExO (.ref CO) y) (fun a u (e : H13 a = some u) => e) hy
        have hyy : EvX.ErrAt (upd H13 y (ExO (.ref CO) y)) y CO := .inr upd_same
        have SH := same_trans SH U
        clear U
        generalize upd H13 y (ExO (.ref CO) y) = H14 at SH hyy
        refine gName_go ?_
        walk_at "rd"
        refine ⟨y, CO, fun _ => false, rfl, hyy, hEO, kitC, fun l2 HA hl2 hl2' SA => ?_⟩
        walk_at "rd"
        refine ⟨l2, _, rfl, .inl (SqL.of hl2'), rfl, rfl, ?_⟩
        walk_at "rd"
        refine ⟨y, CO, _, _, _, rfl, err_same hyy SA, hEO, fun _ h => h, kitCV, ?_⟩
        refine ⟨_, rfl, ?_⟩
        first
          | exact ⟨_, _, _, _, _, _, _, _, _, _, rfl, same_trans SH SA⟩
          | (refine ite2 (fun h => absurd h (by simp)) (fun _ => ?_); exact ⟨_, _, _, _, _, _, _, _, _, _, rfl, same_trans SH SA⟩)
    · rintro σ H' ⟨o1, o2, o3, o4, o5, o6, o7, o8, o9, o10, rfl, S⟩
      walk_at "rd"
      exact k _
end
end Ow

set_option Elab.async false
set_option linter.all false
set_option maxRecDepth 100000
set_option maxHeartbeats 2000000
namespace Ow
open PySem PySem.Spec PyProof.Rows L2
abbrev veT : List Value := [.type "ValueError", .type "Exception", .type "BaseException", .type "object"]
/-- an error class of this name, bm behind it -/
def Lk (K : PySem.W.Frag) (C : Addr) (nm : Str) (bm : List Value) : Prop := ∃ q N bs sn sub ab col dd k0 k1 k2 k3 k5, K.lookup C = some (excClassObj nm q C N bs bm true sn sub ab col dd k0 k1 k2 k3 k5 "ValueError.__new__")
section
variable {K : PySem.W.Frag} {C D CO : Addr} {n m : Str} {bm bm' : List Value}
theorem Lk.ne (a : Lk K C n bm) (b : Lk K D m bm') (h : n ≠ m) : C ≠ D := fun e => by
  obtain ⟨_, _, _, _, _, _, _, _, _, _, _, _, _, a⟩ := a
  obtain ⟨_, _, _, _, _, _, _, _, _, _, _, _, _, b⟩ := b
  subst e
  exact h (congrArg (fun o : Obj => match o.data with | .cls c => c.name | _ => n) (Option.some.inj (a.symm.trans b)))
theorem Lk.sub (a : Lk K C n bm) (v : Value) : PySem.W.subIn K (.ref C) v = some ((Value.ref C :: bm).contains v) := by
  obtain ⟨_, _, _, _, _, _, _, _, _, _, _, _, _, a⟩ := a
  show PySem.W.mroIn K C v = _
  unfold PySem.W.mroIn PySem.W.clsIn
  rw [a]
  rfl
theorem Lk.kit (a : Lk K C n bm) (b : Lk K D m bm') (h : C ≠ D) : PySem.W.kitOne K (.ref C) (.ref D) = some ((Value.ref C :: bm).contains (.ref D)) := by
  unfold PySem.W.kitOne
  rw [if_neg (fun z => h (Value.ref.inj (beq_iff_eq.mp z)))]
  unfold PySem.W.kitCls
  have e : ((PySem.W.clsIn K D).isSome && PySem.W.typeIn K (.ref D) == some (.type "type")) = true := by
    obtain ⟨_, _, _, _, _, _, _, _, _, _, _, _, _, b⟩ := b
    have h1 : (PySem.W.clsIn K D).isSome = true := by
      unfold PySem.W.clsIn
      rw [b]
      rfl
    have h2 : PySem.W.typeIn K (.ref D) = some (.type "type") := by
      show (K.lookup D).map (·.cls) = _
      rw [b]
      rfl
    rw [h1, h2]
    rfl
  show (if ((PySem.W.clsIn K D).isSome && PySem.W.typeIn K (.ref D) == some (.type "type")) = true then PySem.W.subIn K (.ref C) (.ref D) else none) = _
  rw [if_pos e]
  exact a.sub _
theorem ref_in (C D : Addr) (l : List Value) : (Value.ref C :: l).contains (.ref D) = (decide (C = D) || l.contains (.ref D)) := by
  rw [List.contains_cons]
  congr 1
  rw [Bool.eq_iff_iff, beq_iff_eq, decide_eq_true_iff]
  exact ⟨fun e => (Value.ref.inj e).symm, fun e => by rw [e]⟩
theorem ve_no (D : Addr) : veT.contains (.ref D) = false := rfl
theorem Lk.two (a : Lk K C n (.ref CO :: veT)) (b : Lk K D m (.ref CO :: veT)) (o : Lk K CO "OwedError" veT) (h : n ≠ m) (hm : m ≠ "OwedError") : PySem.W.kitOne K (.ref C) (.ref D) = some false := by
  rw [a.kit b (a.ne b h), ref_in, ref_in, ve_no, decide_eq_false (a.ne b h), decide_eq_false (o.ne b (Ne.symm hm))]
  rfl
theorem Lk.up (a : Lk K C n (.ref CO :: veT)) (o : Lk K CO "OwedError" veT) (hn : n ≠ "OwedError") : PySem.W.kitOne K (.ref C) (.ref CO) = some true := by
  rw [a.kit o (a.ne o hn), ref_in, ref_in, decide_eq_true rfl]
  rw [Bool.true_or, Bool.or_true]
theorem Lk.down (b : Lk K D m (.ref CO :: veT)) (o : Lk K CO "OwedError" veT) (hm : m ≠ "OwedError") : PySem.W.kitOne K (.ref CO) (.ref D) = some false := by
  rw [o.kit b (o.ne b (Ne.symm hm)), ref_in, ve_no, decide_eq_false (o.ne b (Ne.symm hm))]
  rfl
theorem Lk.ve (a : Lk K C n bm) (h : bm.contains (.type "ValueError") = true) : PySem.W.kitOne K (.ref C) (.type "ValueError") = some true := by
  unfold PySem.W.kitOne
  rw [if_neg (fun z => by cases beq_iff_eq.mp z)]
  show (if PySem.W.kitMeta "ValueError" = true then PySem.W.subIn K (.ref C) (.type "ValueError") else none) = _
  rw [if_pos (by decide +kernel), a.sub, List.contains_cons, h, Bool.or_true]
theorem same_kit (C : Addr) : PySem.W.kitOne K (.ref C) (.ref C) = some true := by
  unfold PySem.W.kitOne
  rw [if_pos (beq_iff_eq.mpr rfl)]
end
def nms : List Str := ["BadSymbol", "BadDomain", "BadFunction", "TooMany", "NotCut", "Amid", "Closed", "Starved", "Failed", "Cut", "BadDoor", "BadName", "NotLent", "BadMove", "Faulty"]
theorem nms_ne : ∀ i j : Fin 15, i ≠ j → nms.getD i "" ≠ nms.getD j "" := by decide +kernel
theorem nms_no : ∀ i : Fin 15, nms.getD i "" ≠ "OwedError" := by decide +kernel
theorem kit_all {K : PySem.W.Frag} {cs : Nat → Addr} {CO : Addr} (h : ∀ i, i < 15 → Lk K (cs i) (nms.getD i "") (.ref CO :: veT)) (o : Lk K CO "OwedError" veT) (i j : Nat) (hi : i < 15) (hj : j < 15) : PySem.W.kitOne K (.ref (cs i)) (.ref (cs j)) = some (decide (i = j)) := by
  by_cases e : i = j
  · subst e
    rw [same_kit, decide_eq_true rfl]
  · rw [(h i hi).two (h j hj) o (nms_ne ⟨i, hi⟩ ⟨j, hj⟩ fun z => e (Fin.mk.inj z)) (nms_no ⟨j, hj⟩), decide_eq_false e]
end Ow

set_option Elab.async false
set_option linter.all false
set_option maxRecDepth 100000
set_option maxHeartbeats 8000000
namespace Ow
open PySem PySem.Spec PyProof.Rows L2
theorem all_mk {l : PySem.W.OpenLaw} {w : World} {K : PySem.W.Frag} {h : Heap} {mg : Str → Option Value} {fa : Addr} (X : K.In h) (G : h.Ns mainGlobals mg) (hfa : mg "law" = some (.ref fa))
    {f0 : Addr} {od0 an0 : Option Addr} {sl0 : Array (Option Value)} {oc0 kV0 dc0 pm0 cd0 ct0 : Value} {f1 : Addr} {od1 an1 : Option Addr} {sl1 : Array (Option Value)} {oc1 kV1 dc1 pm1 cd1 ct1 : Value} {f2 : Addr} {od2 an2 : Option Addr} {sl2 : Array (Option Value)} {oc2 kV2 dc2 pm2 cd2 ct2 : Value} {f3 : Addr} {od3 an3 : Option Addr} {sl3 : Array (Option Value)} {oc3 kV3 dc3 pm3 cd3 ct3 : Value} {f4 : Addr} {od4 an4 : Option Addr} {sl4 : Array (Option Value)} {oc4 kV4 dc4 pm4 cd4 ct4 : Value} {f5 : Addr} {od5 an5 : Option Addr} {sl5 : Array (Option Value)} {oc5 kV5 dc5 pm5 cd5 ct5 : Value} {f6 : Addr} {od6 an6 : Option Addr} {sl6 : Array (Option Value)} {oc6 kV6 dc6 pm6 cd6 ct6 : Value} {f7 : Addr} {od7 an7 : Option Addr} {sl7 : Array (Option Value)} {oc7 kV7 dc7 pm7 cd7 ct7 : Value} {CO NCO : Addr} {qCO : Str} {bsCO subCO : List Value} {snCO : List Str} {abCO : Bool} {colCO : Option Bool} {ddCO : Option Addr} {k0CO k1CO k2CO k3CO k5CO : Option Value} {C0 NC0 : Addr} {qC0 : Str} {bsC0 subC0 : List Value} {snC0 : List Str} {abC0 : Bool} {colC0 : Option Bool} {ddC0 : Option Addr} {k0C0 k1C0 k2C0 k3C0 k5C0 : Option Value} {fC0 ccC0 cdaC0 : Addr} {odC0 anC0 cldC0 cddC0 : Option Addr} {ocC0 kVC0 dcC0 pmC0 ctC0 clC0 cclC0 : Value} {slC0 cslC0 ccsC0 : Array (Option Value)} {fvsC0 : Array Value} {fiC0 : Str} {tfC0 : Tok} {C1 NC1 : Addr} {qC1 : Str} {bsC1 subC1 : List Value} {snC1 : List Str} {abC1 : Bool} {colC1 : Option Bool} {ddC1 : Option Addr} {k0C1 k1C1 k2C1 k3C1 k5C1 : Option Value} {fC1 ccC1 cdaC1 : Addr} {odC1 anC1 cldC1 cddC1 : Option Addr} {ocC1 kVC1 dcC1 pmC1 ctC1 clC1 cclC1 : Value} {slC1 cslC1 ccsC1 : Array (Option Value)} {fvsC1 : Array Value} {fiC1 : Str} {tfC1 : Tok} {C2 NC2 : Addr} {qC2 : Str} {bsC2 subC2 : List Value} {snC2 : List Str} {abC2 : Bool} {colC2 : Option Bool} {ddC2 : Option Addr} {k0C2 k1C2 k2C2 k3C2 k5C2 : Option Value} {fC2 ccC2 cdaC2 : Addr} {odC2 anC2 cldC2 cddC2 : Option Addr} {ocC2 kVC2 dcC2 pmC2 ctC2 clC2 cclC2 : Value} {slC2 cslC2 ccsC2 : Array (Option Value)} {fvsC2 : Array Value} {fiC2 : Str} {tfC2 : Tok} {C3 NC3 : Addr} {qC3 : Str} {bsC3 subC3 : List Value} {snC3 : List Str} {abC3 : Bool} {colC3 : Option Bool} {ddC3 : Option Addr} {k0C3 k1C3 k2C3 k3C3 k5C3 : Option Value} {fC3 ccC3 cdaC3 : Addr} {odC3 anC3 cldC3 cddC3 : Option Addr} {ocC3 kVC3 dcC3 pmC3 ctC3 clC3 cclC3 : Value} {slC3 cslC3 ccsC3 : Array (Option Value)} {fvsC3 : Array Value} {fiC3 : Str} {tfC3 : Tok} {C4 NC4 : Addr} {qC4 : Str} {bsC4 subC4 : List Value} {snC4 : List Str} {abC4 : Bool} {colC4 : Option Bool} {ddC4 : Option Addr} {k0C4 k1C4 k2C4 k3C4 k5C4 : Option Value} {fC4 ccC4 cdaC4 : Addr} {odC4 anC4 cldC4 cddC4 : Option Addr} {ocC4 kVC4 dcC4 pmC4 ctC4 clC4 cclC4 : Value} {slC4 cslC4 ccsC4 : Array (Option Value)} {fvsC4 : Array Value} {fiC4 : Str} {tfC4 : Tok} {C5 NC5 : Addr} {qC5 : Str} {bsC5 subC5 : List Value} {snC5 : List Str} {abC5 : Bool} {colC5 : Option Bool} {ddC5 : Option Addr} {k0C5 k1C5 k2C5 k3C5 k5C5 : Option Value} {fC5 ccC5 cdaC5 : Addr} {odC5 anC5 cldC5 cddC5 : Option Addr} {ocC5 kVC5 dcC5 pmC5 ctC5 clC5 cclC5 : Value} {slC5 cslC5 ccsC5 : Array (Option Value)} {fvsC5 : Array Value} {fiC5 : Str} {tfC5 : Tok} {C6 NC6 : Addr} {qC6 : Str} {bsC6 subC6 : List Value} {snC6 : List Str} {abC6 : Bool} {colC6 : Option Bool} {ddC6 : Option Addr} {k0C6 k1C6 k2C6 k3C6 k5C6 : Option Value} {fC6 ccC6 cdaC6 : Addr} {odC6 anC6 cldC6 cddC6 : Option Addr} {ocC6 kVC6 dcC6 pmC6 ctC6 clC6 cclC6 : Value} {slC6 cslC6 ccsC6 : Array (Option Value)} {fvsC6 : Array Value} {fiC6 : Str} {tfC6 : Tok} {C7 NC7 : Addr} {qC7 : Str} {bsC7 subC7 : List Value} {snC7 : List Str} {abC7 : Bool} {colC7 : Option Bool} {ddC7 : Option Addr} {k0C7 k1C7 k2C7 k3C7 k5C7 : Option Value} {fC7 ccC7 cdaC7 : Addr} {odC7 anC7 cldC7 cddC7 : Option Addr} {ocC7 kVC7 dcC7 pmC7 ctC7 clC7 cclC7 : Value} {slC7 cslC7 ccsC7 : Array (Option Value)} {fvsC7 : Array Value} {fiC7 : Str} {tfC7 : Tok} {C8 NC8 : Addr} {qC8 : Str} {bsC8 subC8 : List Value} {snC8 : List Str} {abC8 : Bool} {colC8 : Option Bool} {ddC8 : Option Addr} {k0C8 k1C8 k2C8 k3C8 k5C8 : Option Value} {fC8 ccC8 cdaC8 : Addr} {odC8 anC8 cldC8 cddC8 : Option Addr} {ocC8 kVC8 dcC8 pmC8 ctC8 clC8 cclC8 : Value} {slC8 cslC8 ccsC8 : Array (Option Value)} {fvsC8 : Array Value} {fiC8 : Str} {tfC8 : Tok} {C9 NC9 : Addr} {qC9 : Str} {bsC9 subC9 : List Value} {snC9 : List Str} {abC9 : Bool} {colC9 : Option Bool} {ddC9 : Option Addr} {k0C9 k1C9 k2C9 k3C9 k5C9 : Option Value} {fC9 ccC9 cdaC9 : Addr} {odC9 anC9 cldC9 cddC9 : Option Addr} {ocC9 kVC9 dcC9 pmC9 ctC9 clC9 cclC9 : Value} {slC9 cslC9 ccsC9 : Array (Option Value)} {fvsC9 : Array Value} {fiC9 : Str} {tfC9 : Tok} {C10 NC10 : Addr} {qC10 : Str} {bsC10 subC10 : List Value} {snC10 : List Str} {abC10 : Bool} {colC10 : Option Bool} {ddC10 : Option Addr} {k0C10 k1C10 k2C10 k3C10 k5C10 : Option Value} {fC10 ccC10 cdaC10 : Addr} {odC10 anC10 cldC10 cddC10 : Option Addr} {ocC10 kVC10 dcC10 pmC10 ctC10 clC10 cclC10 : Value} {slC10 cslC10 ccsC10 : Array (Option Value)} {fvsC10 : Array Value} {fiC10 : Str} {tfC10 : Tok} {C11 NC11 : Addr} {qC11 : Str} {bsC11 subC11 : List Value} {snC11 : List Str} {abC11 : Bool} {colC11 : Option Bool} {ddC11 : Option Addr} {k0C11 k1C11 k2C11 k3C11 k5C11 : Option Value} {fC11 ccC11 cdaC11 : Addr} {odC11 anC11 cldC11 cddC11 : Option Addr} {ocC11 kVC11 dcC11 pmC11 ctC11 clC11 cclC11 : Value} {slC11 cslC11 ccsC11 : Array (Option Value)} {fvsC11 : Array Value} {fiC11 : Str} {tfC11 : Tok} {C12 NC12 : Addr} {qC12 : Str} {bsC12 subC12 : List Value} {snC12 : List Str} {abC12 : Bool} {colC12 : Option Bool} {ddC12 : Option Addr} {k0C12 k1C12 k2C12 k3C12 k5C12 : Option Value} {fC12 ccC12 cdaC12 : Addr} {odC12 anC12 cldC12 cddC12 : Option Addr} {ocC12 kVC12 dcC12 pmC12 ctC12 clC12 cclC12 : Value} {slC12 cslC12 ccsC12 : Array (Option Value)} {fvsC12 : Array Value} {fiC12 : Str} {tfC12 : Tok} {C13 NC13 : Addr} {qC13 : Str} {bsC13 subC13 : List Value} {snC13 : List Str} {abC13 : Bool} {colC13 : Option Bool} {ddC13 : Option Addr} {k0C13 k1C13 k2C13 k3C13 k5C13 : Option Value} {fC13 ccC13 cdaC13 : Addr} {odC13 anC13 cldC13 cddC13 : Option Addr} {ocC13 kVC13 dcC13 pmC13 ctC13 clC13 cclC13 : Value} {slC13 cslC13 ccsC13 : Array (Option Value)} {fvsC13 : Array Value} {fiC13 : Str} {tfC13 : Tok} {C14 NC14 : Addr} {qC14 : Str} {bsC14 subC14 : List Value} {snC14 : List Str} {abC14 : Bool} {colC14 : Option Bool} {ddC14 : Option Addr} {k0C14 k1C14 k2C14 k3C14 k5C14 : Option Value} {fC14 ccC14 cdaC14 : Addr} {odC14 anC14 cldC14 cddC14 : Option Addr} {ocC14 kVC14 dcC14 pmC14 ctC14 clC14 cclC14 : Value} {slC14 cslC14 ccsC14 : Array (Option Value)} {fvsC14 : Array Value} {fiC14 : Str} {tfC14 : Tok}
    (a0 : PySem.W.nsIn K mainGlobals "_law_bag" = some (some (.ref f0)))
    (l0 : K.lookup f0 = some ⟨oc0, od0, .func (PySem.W.fnOf "_law_bag" "_law_bag" (defArgs s_law_bag) (defBody s_law_bag) (defScope s_law_bag) .none kV0 dc0 pm0 an0 cd0 ct0), sl0⟩)
    (c0 : PySem.W.codeIn K cd0 "_law_bag" = true)
    (k0 : PySem.W.keepIn K (.ref f0) = true)
    (a1 : PySem.W.nsIn K mainGlobals "_law_take" = some (some (.ref f1)))
    (l1 : K.lookup f1 = some ⟨oc1, od1, .func (PySem.W.fnOf "_law_take" "_law_take" (defArgs s_law_take) (defBody s_law_take) (defScope s_law_take) .none kV1 dc1 pm1 an1 cd1 ct1), sl1⟩)
    (c1 : PySem.W.codeIn K cd1 "_law_take" = true)
    (k1 : PySem.W.keepIn K (.ref f1) = true)
    (a2 : PySem.W.nsIn K mainGlobals "_law_of" = some (some (.ref f2)))
    (l2 : K.lookup f2 = some ⟨oc2, od2, .func (PySem.W.fnOf "_law_of" "_law_of" (defArgs s_law_of) (defBody s_law_of) (defScope s_law_of) .none kV2 dc2 pm2 an2 cd2 ct2), sl2⟩)
    (c2 : PySem.W.codeIn K cd2 "_law_of" = true)
    (k2 : PySem.W.keepIn K (.ref f2) = true)
    (a3 : PySem.W.nsIn K mainGlobals "_law_number" = some (some (.ref f3)))
    (l3 : K.lookup f3 = some ⟨oc3, od3, .func (PySem.W.fnOf "_law_number" "_law_number" (defArgs s_law_number) (defBody s_law_number) (defScope s_law_number) .none kV3 dc3 pm3 an3 cd3 ct3), sl3⟩)
    (c3 : PySem.W.codeIn K cd3 "_law_number" = true)
    (k3 : PySem.W.keepIn K (.ref f3) = true)
    (a4 : PySem.W.nsIn K mainGlobals "_law_fields" = some (some (.ref f4)))
    (l4 : K.lookup f4 = some ⟨oc4, od4, .func (PySem.W.fnOf "_law_fields" "_law_fields" (defArgs s_law_fields) (defBody s_law_fields) (defScope s_law_fields) .none kV4 dc4 pm4 an4 cd4 ct4), sl4⟩)
    (c4 : PySem.W.codeIn K cd4 "_law_fields" = true)
    (k4 : PySem.W.keepIn K (.ref f4) = true)
    (a5 : PySem.W.nsIn K mainGlobals "_law_made" = some (some (.ref f5)))
    (l5 : K.lookup f5 = some ⟨oc5, od5, .func (PySem.W.fnOf "_law_made" "_law_made" (defArgs s_law_made) (defBody s_law_made) (defScope s_law_made) .none kV5 dc5 pm5 an5 cd5 ct5), sl5⟩)
    (c5 : PySem.W.codeIn K cd5 "_law_made" = true)
    (k5 : PySem.W.keepIn K (.ref f5) = true)
    (a6 : PySem.W.nsIn K mainGlobals "_law_classes" = some (some (.ref f6)))
    (l6 : K.lookup f6 = some ⟨oc6, od6, .func (PySem.W.fnOf "_law_classes" "_law_classes" (defArgs s_law_classes) (defBody s_law_classes) (defScope s_law_classes) .none kV6 dc6 pm6 an6 cd6 ct6), sl6⟩)
    (c6 : PySem.W.codeIn K cd6 "_law_classes" = true)
    (k6 : PySem.W.keepIn K (.ref f6) = true)
    (a7 : PySem.W.nsIn K mainGlobals "law" = some (some (.ref f7)))
    (l7 : K.lookup f7 = some ⟨oc7, od7, .func (PySem.W.fnOf "law" "law" (defArgs s_law) (defBody s_law) (defScope s_law) .none kV7 dc7 pm7 an7 cd7 ct7), sl7⟩)
    (c7 : PySem.W.codeIn K cd7 "law" = true)
    (k7 : PySem.W.keepIn K (.ref f7) = true)
    (zlen : PySem.W.nsIn K mainGlobals "len" = some none)
    (zabs : PySem.W.nsIn K mainGlobals "abs" = some none)
    (zint : PySem.W.nsIn K mainGlobals "int" = some none)
    (zstr : PySem.W.nsIn K mainGlobals "str" = some none)
    (zmin : PySem.W.nsIn K mainGlobals "min" = some none)
    (zmax : PySem.W.nsIn K mainGlobals "max" = some none)
    (zall : PySem.W.nsIn K mainGlobals "all" = some none)
    (zrange : PySem.W.nsIn K mainGlobals "range" = some none)
    (zsorted : PySem.W.nsIn K mainGlobals "sorted" = some none)
    (zlist : PySem.W.nsIn K mainGlobals "list" = some none)
    (ztuple : PySem.W.nsIn K mainGlobals "tuple" = some none)
    (zdict : PySem.W.nsIn K mainGlobals "dict" = some none)
    (zisinstance : PySem.W.nsIn K mainGlobals "isinstance" = some none)
    (zsum : PySem.W.nsIn K mainGlobals "sum" = some none)
    (zValueError : PySem.W.nsIn K mainGlobals "ValueError" = some none)
    (aCO : PySem.W.nsIn K mainGlobals "OwedError" = some (some (.ref CO)))
    (lCO : K.lookup CO = some (PySem.excClassObj "OwedError" qCO CO NCO bsCO [.type "ValueError", .type "Exception", .type "BaseException", .type "object"] true snCO subCO abCO colCO ddCO k0CO k1CO k2CO k3CO k5CO "ValueError.__new__"))
    (exCO : PySem.W.subIn K (.ref CO) (.type "BaseException") = some true)
    (hdCO : PySem.W.hasDictIn K CO = true)
    (kpCO : PySem.W.keepIn K (.ref CO) = true)
    (gaCO : PySem.W.findIn K (.ref CO) "__getattribute__" = some (some (.builtin "BaseException.__getattribute__")))
    (ggCO : PySem.W.findIn K (.ref CO) "__getattr__" = some none)
    (acCO : PySem.W.findIn K (.ref CO) "__class__" = some (some (.builtin "object.__class__")))
    (xn : PySem.W.specialIn K (.builtin "object.__class__") "__get__" = some (some (.builtin "getset_descriptor.__get__")))
    (xt : PySem.W.takesIn K (.builtin "object.__class__") = some true)
    (moCO : PySem.W.mroIn K CO (.type "object") = some true)
    (exO : PySem.W.excIn K CO [.type "ValueError", .type "Exception", .type "BaseException", .type "object"] "ValueError.__new__" = true)
    (aC0 : PySem.W.nsIn K mainGlobals "BadSymbol" = some (some (.ref C0)))
    (lC0 : K.lookup C0 = some (PySem.excClassObj "BadSymbol" qC0 C0 NC0 bsC0 [.ref CO, .type "ValueError", .type "Exception", .type "BaseException", .type "object"] true snC0 subC0 abC0 colC0 ddC0 k0C0 k1C0 k2C0 k3C0 k5C0 "ValueError.__new__"))
    (exC0 : PySem.W.subIn K (.ref C0) (.type "BaseException") = some true)
    (hdC0 : PySem.W.hasDictIn K C0 = true)
    (kpC0 : PySem.W.keepIn K (.ref C0) = true)
    (gaC0 : PySem.W.findIn K (.ref C0) "__getattribute__" = some (some (.builtin "BaseException.__getattribute__")))
    (ggC0 : PySem.W.findIn K (.ref C0) "__getattr__" = some none)
    (acC0 : PySem.W.findIn K (.ref C0) "__class__" = some (some (.builtin "object.__class__")))
    (moC0 : PySem.W.mroIn K C0 (.type "object") = some true)
    (tyC0 : PySem.W.typeIn K (.ref C0) = some (.type "type"))
    (saC0 : PySem.W.findIn K (.ref C0) "__setattr__" = some (some (.builtin "object.__setattr__")))
    (noC0_0 : PySem.W.findIn K (.ref C0) "symbol" = some none)
    (inC0 : PySem.W.findIn K (.ref C0) "__init__" = some (some (.ref fC0)))
    (tfC0i : PySem.W.typeIn K (.ref fC0) = some (.type "function"))
    (lfC0 : K.lookup fC0 = some ⟨ocC0, odC0, .func (PySem.W.ksFn "__init__" "BadSymbol.__init__" (defArgs s_BadSymbolD_initD) (defBody s_BadSymbolD_initD) (defScope s_BadSymbolD_initD) .none kVC0 dcC0 pmC0 anC0 (.ref cdaC0) ctC0 ccC0), slC0⟩)
    (cdC0 : PySem.W.codeIn K (.ref cdaC0) "BadSymbol.__init__" = true)
    (lcC0 : K.lookup ccC0 = some ⟨clC0, cldC0, .cell (some (.ref C0)), cslC0⟩)
    (ldC0 : K.lookup cdaC0 = some ⟨cclC0, cddC0, .fields fvsC0, ccsC0⟩)
    (flC0 : fvsC0[2]? = some (.str fiC0 tfC0))
    (pfC0 : ((l.prog.main.file : Str) == fiC0) = true)
    (zsuper : PySem.W.nsIn K mainGlobals "super" = some none)
    (zthird : PySem.W.nsIn K cStatics "thirdparty.any" = some none)
    (suC0 : PySem.W.mroIn K C0 (.ref C0) = some true)
    (svC0 : PySem.W.subIn K (.ref C0) (.type "ValueError") = some true)
    (siC0 : PySem.W.ks_superIn K C0 C0 "__init__" = some (some (.builtin "ValueError.__init__")))
    (tops : (l.prog.main.scope.names.lookup ("super" : Str)).isSome = false)
    (aC1 : PySem.W.nsIn K mainGlobals "BadDomain" = some (some (.ref C1)))
    (lC1 : K.lookup C1 = some (PySem.excClassObj "BadDomain" qC1 C1 NC1 bsC1 [.ref CO, .type "ValueError", .type "Exception", .type "BaseException", .type "object"] true snC1 subC1 abC1 colC1 ddC1 k0C1 k1C1 k2C1 k3C1 k5C1 "ValueError.__new__"))
    (exC1 : PySem.W.subIn K (.ref C1) (.type "BaseException") = some true)
    (hdC1 : PySem.W.hasDictIn K C1 = true)
    (kpC1 : PySem.W.keepIn K (.ref C1) = true)
    (gaC1 : PySem.W.findIn K (.ref C1) "__getattribute__" = some (some (.builtin "BaseException.__getattribute__")))
    (ggC1 : PySem.W.findIn K (.ref C1) "__getattr__" = some none)
    (acC1 : PySem.W.findIn K (.ref C1) "__class__" = some (some (.builtin "object.__class__")))
    (moC1 : PySem.W.mroIn K C1 (.type "object") = some true)
    (tyC1 : PySem.W.typeIn K (.ref C1) = some (.type "type"))
    (saC1 : PySem.W.findIn K (.ref C1) "__setattr__" = some (some (.builtin "object.__setattr__")))
    (noC1_0 : PySem.W.findIn K (.ref C1) "symbol" = some none)
    (inC1 : PySem.W.findIn K (.ref C1) "__init__" = some (some (.ref fC1)))
    (tfC1i : PySem.W.typeIn K (.ref fC1) = some (.type "function"))
    (lfC1 : K.lookup fC1 = some ⟨ocC1, odC1, .func (PySem.W.ksFn "__init__" "BadDomain.__init__" (defArgs s_BadDomainD_initD) (defBody s_BadDomainD_initD) (defScope s_BadDomainD_initD) .none kVC1 dcC1 pmC1 anC1 (.ref cdaC1) ctC1 ccC1), slC1⟩)
    (cdC1 : PySem.W.codeIn K (.ref cdaC1) "BadDomain.__init__" = true)
    (lcC1 : K.lookup ccC1 = some ⟨clC1, cldC1, .cell (some (.ref C1)), cslC1⟩)
    (ldC1 : K.lookup cdaC1 = some ⟨cclC1, cddC1, .fields fvsC1, ccsC1⟩)
    (flC1 : fvsC1[2]? = some (.str fiC1 tfC1))
    (pfC1 : ((l.prog.main.file : Str) == fiC1) = true)
    (suC1 : PySem.W.mroIn K C1 (.ref C1) = some true)
    (svC1 : PySem.W.subIn K (.ref C1) (.type "ValueError") = some true)
    (siC1 : PySem.W.ks_superIn K C1 C1 "__init__" = some (some (.builtin "ValueError.__init__")))
    (aC2 : PySem.W.nsIn K mainGlobals "BadFunction" = some (some (.ref C2)))
    (lC2 : K.lookup C2 = some (PySem.excClassObj "BadFunction" qC2 C2 NC2 bsC2 [.ref CO, .type "ValueError", .type "Exception", .type "BaseException", .type "object"] true snC2 subC2 abC2 colC2 ddC2 k0C2 k1C2 k2C2 k3C2 k5C2 "ValueError.__new__"))
    (exC2 : PySem.W.subIn K (.ref C2) (.type "BaseException") = some true)
    (hdC2 : PySem.W.hasDictIn K C2 = true)
    (kpC2 : PySem.W.keepIn K (.ref C2) = true)
    (gaC2 : PySem.W.findIn K (.ref C2) "__getattribute__" = some (some (.builtin "BaseException.__getattribute__")))
    (ggC2 : PySem.W.findIn K (.ref C2) "__getattr__" = some none)
    (acC2 : PySem.W.findIn K (.ref C2) "__class__" = some (some (.builtin "object.__class__")))
    (moC2 : PySem.W.mroIn K C2 (.type "object") = some true)
    (tyC2 : PySem.W.typeIn K (.ref C2) = some (.type "type"))
    (saC2 : PySem.W.findIn K (.ref C2) "__setattr__" = some (some (.builtin "object.__setattr__")))
    (noC2_0 : PySem.W.findIn K (.ref C2) "row" = some none)
    (inC2 : PySem.W.findIn K (.ref C2) "__init__" = some (some (.ref fC2)))
    (tfC2i : PySem.W.typeIn K (.ref fC2) = some (.type "function"))
    (lfC2 : K.lookup fC2 = some ⟨ocC2, odC2, .func (PySem.W.ksFn "__init__" "BadFunction.__init__" (defArgs s_BadFunctionD_initD) (defBody s_BadFunctionD_initD) (defScope s_BadFunctionD_initD) .none kVC2 dcC2 pmC2 anC2 (.ref cdaC2) ctC2 ccC2), slC2⟩)
    (cdC2 : PySem.W.codeIn K (.ref cdaC2) "BadFunction.__init__" = true)
    (lcC2 : K.lookup ccC2 = some ⟨clC2, cldC2, .cell (some (.ref C2)), cslC2⟩)
    (ldC2 : K.lookup cdaC2 = some ⟨cclC2, cddC2, .fields fvsC2, ccsC2⟩)
    (flC2 : fvsC2[2]? = some (.str fiC2 tfC2))
    (pfC2 : ((l.prog.main.file : Str) == fiC2) = true)
    (suC2 : PySem.W.mroIn K C2 (.ref C2) = some true)
    (svC2 : PySem.W.subIn K (.ref C2) (.type "ValueError") = some true)
    (siC2 : PySem.W.ks_superIn K C2 C2 "__init__" = some (some (.builtin "ValueError.__init__")))
    (aC3 : PySem.W.nsIn K mainGlobals "TooMany" = some (some (.ref C3)))
    (lC3 : K.lookup C3 = some (PySem.excClassObj "TooMany" qC3 C3 NC3 bsC3 [.ref CO, .type "ValueError", .type "Exception", .type "BaseException", .type "object"] true snC3 subC3 abC3 colC3 ddC3 k0C3 k1C3 k2C3 k3C3 k5C3 "ValueError.__new__"))
    (exC3 : PySem.W.subIn K (.ref C3) (.type "BaseException") = some true)
    (hdC3 : PySem.W.hasDictIn K C3 = true)
    (kpC3 : PySem.W.keepIn K (.ref C3) = true)
    (gaC3 : PySem.W.findIn K (.ref C3) "__getattribute__" = some (some (.builtin "BaseException.__getattribute__")))
    (ggC3 : PySem.W.findIn K (.ref C3) "__getattr__" = some none)
    (acC3 : PySem.W.findIn K (.ref C3) "__class__" = some (some (.builtin "object.__class__")))
    (moC3 : PySem.W.mroIn K C3 (.type "object") = some true)
    (tyC3 : PySem.W.typeIn K (.ref C3) = some (.type "type"))
    (saC3 : PySem.W.findIn K (.ref C3) "__setattr__" = some (some (.builtin "object.__setattr__")))
    (noC3_0 : PySem.W.findIn K (.ref C3) "what" = some none)
    (inC3 : PySem.W.findIn K (.ref C3) "__init__" = some (some (.ref fC3)))
    (tfC3i : PySem.W.typeIn K (.ref fC3) = some (.type "function"))
    (lfC3 : K.lookup fC3 = some ⟨ocC3, odC3, .func (PySem.W.ksFn "__init__" "TooMany.__init__" (defArgs s_TooManyD_initD) (defBody s_TooManyD_initD) (defScope s_TooManyD_initD) .none kVC3 dcC3 pmC3 anC3 (.ref cdaC3) ctC3 ccC3), slC3⟩)
    (cdC3 : PySem.W.codeIn K (.ref cdaC3) "TooMany.__init__" = true)
    (lcC3 : K.lookup ccC3 = some ⟨clC3, cldC3, .cell (some (.ref C3)), cslC3⟩)
    (ldC3 : K.lookup cdaC3 = some ⟨cclC3, cddC3, .fields fvsC3, ccsC3⟩)
    (flC3 : fvsC3[2]? = some (.str fiC3 tfC3))
    (pfC3 : ((l.prog.main.file : Str) == fiC3) = true)
    (suC3 : PySem.W.mroIn K C3 (.ref C3) = some true)
    (svC3 : PySem.W.subIn K (.ref C3) (.type "ValueError") = some true)
    (siC3 : PySem.W.ks_superIn K C3 C3 "__init__" = some (some (.builtin "ValueError.__init__")))
    (aC4 : PySem.W.nsIn K mainGlobals "NotCut" = some (some (.ref C4)))
    (lC4 : K.lookup C4 = some (PySem.excClassObj "NotCut" qC4 C4 NC4 bsC4 [.ref CO, .type "ValueError", .type "Exception", .type "BaseException", .type "object"] true snC4 subC4 abC4 colC4 ddC4 k0C4 k1C4 k2C4 k3C4 k5C4 "ValueError.__new__"))
    (exC4 : PySem.W.subIn K (.ref C4) (.type "BaseException") = some true)
    (hdC4 : PySem.W.hasDictIn K C4 = true)
    (kpC4 : PySem.W.keepIn K (.ref C4) = true)
    (gaC4 : PySem.W.findIn K (.ref C4) "__getattribute__" = some (some (.builtin "BaseException.__getattribute__")))
    (ggC4 : PySem.W.findIn K (.ref C4) "__getattr__" = some none)
    (acC4 : PySem.W.findIn K (.ref C4) "__class__" = some (some (.builtin "object.__class__")))
    (moC4 : PySem.W.mroIn K C4 (.type "object") = some true)
    (tyC4 : PySem.W.typeIn K (.ref C4) = some (.type "type"))
    (saC4 : PySem.W.findIn K (.ref C4) "__setattr__" = some (some (.builtin "object.__setattr__")))
    (noC4_0 : PySem.W.findIn K (.ref C4) "row" = some none)
    (inC4 : PySem.W.findIn K (.ref C4) "__init__" = some (some (.ref fC4)))
    (tfC4i : PySem.W.typeIn K (.ref fC4) = some (.type "function"))
    (lfC4 : K.lookup fC4 = some ⟨ocC4, odC4, .func (PySem.W.ksFn "__init__" "NotCut.__init__" (defArgs s_NotCutD_initD) (defBody s_NotCutD_initD) (defScope s_NotCutD_initD) .none kVC4 dcC4 pmC4 anC4 (.ref cdaC4) ctC4 ccC4), slC4⟩)
    (cdC4 : PySem.W.codeIn K (.ref cdaC4) "NotCut.__init__" = true)
    (lcC4 : K.lookup ccC4 = some ⟨clC4, cldC4, .cell (some (.ref C4)), cslC4⟩)
    (ldC4 : K.lookup cdaC4 = some ⟨cclC4, cddC4, .fields fvsC4, ccsC4⟩)
    (flC4 : fvsC4[2]? = some (.str fiC4 tfC4))
    (pfC4 : ((l.prog.main.file : Str) == fiC4) = true)
    (suC4 : PySem.W.mroIn K C4 (.ref C4) = some true)
    (svC4 : PySem.W.subIn K (.ref C4) (.type "ValueError") = some true)
    (siC4 : PySem.W.ks_superIn K C4 C4 "__init__" = some (some (.builtin "ValueError.__init__")))
    (aC5 : PySem.W.nsIn K mainGlobals "Amid" = some (some (.ref C5)))
    (lC5 : K.lookup C5 = some (PySem.excClassObj "Amid" qC5 C5 NC5 bsC5 [.ref CO, .type "ValueError", .type "Exception", .type "BaseException", .type "object"] true snC5 subC5 abC5 colC5 ddC5 k0C5 k1C5 k2C5 k3C5 k5C5 "ValueError.__new__"))
    (exC5 : PySem.W.subIn K (.ref C5) (.type "BaseException") = some true)
    (hdC5 : PySem.W.hasDictIn K C5 = true)
    (kpC5 : PySem.W.keepIn K (.ref C5) = true)
    (gaC5 : PySem.W.findIn K (.ref C5) "__getattribute__" = some (some (.builtin "BaseException.__getattribute__")))
    (ggC5 : PySem.W.findIn K (.ref C5) "__getattr__" = some none)
    (acC5 : PySem.W.findIn K (.ref C5) "__class__" = some (some (.builtin "object.__class__")))
    (moC5 : PySem.W.mroIn K C5 (.type "object") = some true)
    (tyC5 : PySem.W.typeIn K (.ref C5) = some (.type "type"))
    (saC5 : PySem.W.findIn K (.ref C5) "__setattr__" = some (some (.builtin "object.__setattr__")))
    (noC5_0 : PySem.W.findIn K (.ref C5) "half" = some none)
    (inC5 : PySem.W.findIn K (.ref C5) "__init__" = some (some (.ref fC5)))
    (tfC5i : PySem.W.typeIn K (.ref fC5) = some (.type "function"))
    (lfC5 : K.lookup fC5 = some ⟨ocC5, odC5, .func (PySem.W.ksFn "__init__" "Amid.__init__" (defArgs s_AmidD_initD) (defBody s_AmidD_initD) (defScope s_AmidD_initD) .none kVC5 dcC5 pmC5 anC5 (.ref cdaC5) ctC5 ccC5), slC5⟩)
    (cdC5 : PySem.W.codeIn K (.ref cdaC5) "Amid.__init__" = true)
    (lcC5 : K.lookup ccC5 = some ⟨clC5, cldC5, .cell (some (.ref C5)), cslC5⟩)
    (ldC5 : K.lookup cdaC5 = some ⟨cclC5, cddC5, .fields fvsC5, ccsC5⟩)
    (flC5 : fvsC5[2]? = some (.str fiC5 tfC5))
    (pfC5 : ((l.prog.main.file : Str) == fiC5) = true)
    (suC5 : PySem.W.mroIn K C5 (.ref C5) = some true)
    (svC5 : PySem.W.subIn K (.ref C5) (.type "ValueError") = some true)
    (siC5 : PySem.W.ks_superIn K C5 C5 "__init__" = some (some (.builtin "ValueError.__init__")))
    (aC6 : PySem.W.nsIn K mainGlobals "Closed" = some (some (.ref C6)))
    (lC6 : K.lookup C6 = some (PySem.excClassObj "Closed" qC6 C6 NC6 bsC6 [.ref CO, .type "ValueError", .type "Exception", .type "BaseException", .type "object"] true snC6 subC6 abC6 colC6 ddC6 k0C6 k1C6 k2C6 k3C6 k5C6 "ValueError.__new__"))
    (exC6 : PySem.W.subIn K (.ref C6) (.type "BaseException") = some true)
    (hdC6 : PySem.W.hasDictIn K C6 = true)
    (kpC6 : PySem.W.keepIn K (.ref C6) = true)
    (gaC6 : PySem.W.findIn K (.ref C6) "__getattribute__" = some (some (.builtin "BaseException.__getattribute__")))
    (ggC6 : PySem.W.findIn K (.ref C6) "__getattr__" = some none)
    (acC6 : PySem.W.findIn K (.ref C6) "__class__" = some (some (.builtin "object.__class__")))
    (moC6 : PySem.W.mroIn K C6 (.type "object") = some true)
    (tyC6 : PySem.W.typeIn K (.ref C6) = some (.type "type"))
    (saC6 : PySem.W.findIn K (.ref C6) "__setattr__" = some (some (.builtin "object.__setattr__")))
    (noC6_0 : PySem.W.findIn K (.ref C6) "number" = some none)
    (inC6 : PySem.W.findIn K (.ref C6) "__init__" = some (some (.ref fC6)))
    (tfC6i : PySem.W.typeIn K (.ref fC6) = some (.type "function"))
    (lfC6 : K.lookup fC6 = some ⟨ocC6, odC6, .func (PySem.W.ksFn "__init__" "Closed.__init__" (defArgs s_ClosedD_initD) (defBody s_ClosedD_initD) (defScope s_ClosedD_initD) .none kVC6 dcC6 pmC6 anC6 (.ref cdaC6) ctC6 ccC6), slC6⟩)
    (cdC6 : PySem.W.codeIn K (.ref cdaC6) "Closed.__init__" = true)
    (lcC6 : K.lookup ccC6 = some ⟨clC6, cldC6, .cell (some (.ref C6)), cslC6⟩)
    (ldC6 : K.lookup cdaC6 = some ⟨cclC6, cddC6, .fields fvsC6, ccsC6⟩)
    (flC6 : fvsC6[2]? = some (.str fiC6 tfC6))
    (pfC6 : ((l.prog.main.file : Str) == fiC6) = true)
    (suC6 : PySem.W.mroIn K C6 (.ref C6) = some true)
    (svC6 : PySem.W.subIn K (.ref C6) (.type "ValueError") = some true)
    (siC6 : PySem.W.ks_superIn K C6 C6 "__init__" = some (some (.builtin "ValueError.__init__")))
    (aC7 : PySem.W.nsIn K mainGlobals "Starved" = some (some (.ref C7)))
    (lC7 : K.lookup C7 = some (PySem.excClassObj "Starved" qC7 C7 NC7 bsC7 [.ref CO, .type "ValueError", .type "Exception", .type "BaseException", .type "object"] true snC7 subC7 abC7 colC7 ddC7 k0C7 k1C7 k2C7 k3C7 k5C7 "ValueError.__new__"))
    (exC7 : PySem.W.subIn K (.ref C7) (.type "BaseException") = some true)
    (hdC7 : PySem.W.hasDictIn K C7 = true)
    (kpC7 : PySem.W.keepIn K (.ref C7) = true)
    (gaC7 : PySem.W.findIn K (.ref C7) "__getattribute__" = some (some (.builtin "BaseException.__getattribute__")))
    (ggC7 : PySem.W.findIn K (.ref C7) "__getattr__" = some none)
    (acC7 : PySem.W.findIn K (.ref C7) "__class__" = some (some (.builtin "object.__class__")))
    (moC7 : PySem.W.mroIn K C7 (.type "object") = some true)
    (tyC7 : PySem.W.typeIn K (.ref C7) = some (.type "type"))
    (saC7 : PySem.W.findIn K (.ref C7) "__setattr__" = some (some (.builtin "object.__setattr__")))
    (noC7_0 : PySem.W.findIn K (.ref C7) "number" = some none)
    (inC7 : PySem.W.findIn K (.ref C7) "__init__" = some (some (.ref fC7)))
    (tfC7i : PySem.W.typeIn K (.ref fC7) = some (.type "function"))
    (lfC7 : K.lookup fC7 = some ⟨ocC7, odC7, .func (PySem.W.ksFn "__init__" "Starved.__init__" (defArgs s_StarvedD_initD) (defBody s_StarvedD_initD) (defScope s_StarvedD_initD) .none kVC7 dcC7 pmC7 anC7 (.ref cdaC7) ctC7 ccC7), slC7⟩)
    (cdC7 : PySem.W.codeIn K (.ref cdaC7) "Starved.__init__" = true)
    (lcC7 : K.lookup ccC7 = some ⟨clC7, cldC7, .cell (some (.ref C7)), cslC7⟩)
    (ldC7 : K.lookup cdaC7 = some ⟨cclC7, cddC7, .fields fvsC7, ccsC7⟩)
    (flC7 : fvsC7[2]? = some (.str fiC7 tfC7))
    (pfC7 : ((l.prog.main.file : Str) == fiC7) = true)
    (suC7 : PySem.W.mroIn K C7 (.ref C7) = some true)
    (svC7 : PySem.W.subIn K (.ref C7) (.type "ValueError") = some true)
    (siC7 : PySem.W.ks_superIn K C7 C7 "__init__" = some (some (.builtin "ValueError.__init__")))
    (aC8 : PySem.W.nsIn K mainGlobals "Failed" = some (some (.ref C8)))
    (lC8 : K.lookup C8 = some (PySem.excClassObj "Failed" qC8 C8 NC8 bsC8 [.ref CO, .type "ValueError", .type "Exception", .type "BaseException", .type "object"] true snC8 subC8 abC8 colC8 ddC8 k0C8 k1C8 k2C8 k3C8 k5C8 "ValueError.__new__"))
    (exC8 : PySem.W.subIn K (.ref C8) (.type "BaseException") = some true)
    (hdC8 : PySem.W.hasDictIn K C8 = true)
    (kpC8 : PySem.W.keepIn K (.ref C8) = true)
    (gaC8 : PySem.W.findIn K (.ref C8) "__getattribute__" = some (some (.builtin "BaseException.__getattribute__")))
    (ggC8 : PySem.W.findIn K (.ref C8) "__getattr__" = some none)
    (acC8 : PySem.W.findIn K (.ref C8) "__class__" = some (some (.builtin "object.__class__")))
    (moC8 : PySem.W.mroIn K C8 (.type "object") = some true)
    (tyC8 : PySem.W.typeIn K (.ref C8) = some (.type "type"))
    (saC8 : PySem.W.findIn K (.ref C8) "__setattr__" = some (some (.builtin "object.__setattr__")))
    (noC8_0 : PySem.W.findIn K (.ref C8) "row" = some none)
    (inC8 : PySem.W.findIn K (.ref C8) "__init__" = some (some (.ref fC8)))
    (tfC8i : PySem.W.typeIn K (.ref fC8) = some (.type "function"))
    (lfC8 : K.lookup fC8 = some ⟨ocC8, odC8, .func (PySem.W.ksFn "__init__" "Failed.__init__" (defArgs s_FailedD_initD) (defBody s_FailedD_initD) (defScope s_FailedD_initD) .none kVC8 dcC8 pmC8 anC8 (.ref cdaC8) ctC8 ccC8), slC8⟩)
    (cdC8 : PySem.W.codeIn K (.ref cdaC8) "Failed.__init__" = true)
    (lcC8 : K.lookup ccC8 = some ⟨clC8, cldC8, .cell (some (.ref C8)), cslC8⟩)
    (ldC8 : K.lookup cdaC8 = some ⟨cclC8, cddC8, .fields fvsC8, ccsC8⟩)
    (flC8 : fvsC8[2]? = some (.str fiC8 tfC8))
    (pfC8 : ((l.prog.main.file : Str) == fiC8) = true)
    (suC8 : PySem.W.mroIn K C8 (.ref C8) = some true)
    (svC8 : PySem.W.subIn K (.ref C8) (.type "ValueError") = some true)
    (siC8 : PySem.W.ks_superIn K C8 C8 "__init__" = some (some (.builtin "ValueError.__init__")))
    (aC9 : PySem.W.nsIn K mainGlobals "Cut" = some (some (.ref C9)))
    (lC9 : K.lookup C9 = some (PySem.excClassObj "Cut" qC9 C9 NC9 bsC9 [.ref CO, .type "ValueError", .type "Exception", .type "BaseException", .type "object"] true snC9 subC9 abC9 colC9 ddC9 k0C9 k1C9 k2C9 k3C9 k5C9 "ValueError.__new__"))
    (exC9 : PySem.W.subIn K (.ref C9) (.type "BaseException") = some true)
    (hdC9 : PySem.W.hasDictIn K C9 = true)
    (kpC9 : PySem.W.keepIn K (.ref C9) = true)
    (gaC9 : PySem.W.findIn K (.ref C9) "__getattribute__" = some (some (.builtin "BaseException.__getattribute__")))
    (ggC9 : PySem.W.findIn K (.ref C9) "__getattr__" = some none)
    (acC9 : PySem.W.findIn K (.ref C9) "__class__" = some (some (.builtin "object.__class__")))
    (moC9 : PySem.W.mroIn K C9 (.type "object") = some true)
    (tyC9 : PySem.W.typeIn K (.ref C9) = some (.type "type"))
    (saC9 : PySem.W.findIn K (.ref C9) "__setattr__" = some (some (.builtin "object.__setattr__")))
    (noC9_0 : PySem.W.findIn K (.ref C9) "row" = some none)
    (inC9 : PySem.W.findIn K (.ref C9) "__init__" = some (some (.ref fC9)))
    (tfC9i : PySem.W.typeIn K (.ref fC9) = some (.type "function"))
    (lfC9 : K.lookup fC9 = some ⟨ocC9, odC9, .func (PySem.W.ksFn "__init__" "Cut.__init__" (defArgs s_CutD_initD) (defBody s_CutD_initD) (defScope s_CutD_initD) .none kVC9 dcC9 pmC9 anC9 (.ref cdaC9) ctC9 ccC9), slC9⟩)
    (cdC9 : PySem.W.codeIn K (.ref cdaC9) "Cut.__init__" = true)
    (lcC9 : K.lookup ccC9 = some ⟨clC9, cldC9, .cell (some (.ref C9)), cslC9⟩)
    (ldC9 : K.lookup cdaC9 = some ⟨cclC9, cddC9, .fields fvsC9, ccsC9⟩)
    (flC9 : fvsC9[2]? = some (.str fiC9 tfC9))
    (pfC9 : ((l.prog.main.file : Str) == fiC9) = true)
    (suC9 : PySem.W.mroIn K C9 (.ref C9) = some true)
    (svC9 : PySem.W.subIn K (.ref C9) (.type "ValueError") = some true)
    (siC9 : PySem.W.ks_superIn K C9 C9 "__init__" = some (some (.builtin "ValueError.__init__")))
    (aC10 : PySem.W.nsIn K mainGlobals "BadDoor" = some (some (.ref C10)))
    (lC10 : K.lookup C10 = some (PySem.excClassObj "BadDoor" qC10 C10 NC10 bsC10 [.ref CO, .type "ValueError", .type "Exception", .type "BaseException", .type "object"] true snC10 subC10 abC10 colC10 ddC10 k0C10 k1C10 k2C10 k3C10 k5C10 "ValueError.__new__"))
    (exC10 : PySem.W.subIn K (.ref C10) (.type "BaseException") = some true)
    (hdC10 : PySem.W.hasDictIn K C10 = true)
    (kpC10 : PySem.W.keepIn K (.ref C10) = true)
    (gaC10 : PySem.W.findIn K (.ref C10) "__getattribute__" = some (some (.builtin "BaseException.__getattribute__")))
    (ggC10 : PySem.W.findIn K (.ref C10) "__getattr__" = some none)
    (acC10 : PySem.W.findIn K (.ref C10) "__class__" = some (some (.builtin "object.__class__")))
    (moC10 : PySem.W.mroIn K C10 (.type "object") = some true)
    (tyC10 : PySem.W.typeIn K (.ref C10) = some (.type "type"))
    (saC10 : PySem.W.findIn K (.ref C10) "__setattr__" = some (some (.builtin "object.__setattr__")))
    (noC10_0 : PySem.W.findIn K (.ref C10) "word" = some none)
    (inC10 : PySem.W.findIn K (.ref C10) "__init__" = some (some (.ref fC10)))
    (tfC10i : PySem.W.typeIn K (.ref fC10) = some (.type "function"))
    (lfC10 : K.lookup fC10 = some ⟨ocC10, odC10, .func (PySem.W.ksFn "__init__" "BadDoor.__init__" (defArgs s_BadDoorD_initD) (defBody s_BadDoorD_initD) (defScope s_BadDoorD_initD) .none kVC10 dcC10 pmC10 anC10 (.ref cdaC10) ctC10 ccC10), slC10⟩)
    (cdC10 : PySem.W.codeIn K (.ref cdaC10) "BadDoor.__init__" = true)
    (lcC10 : K.lookup ccC10 = some ⟨clC10, cldC10, .cell (some (.ref C10)), cslC10⟩)
    (ldC10 : K.lookup cdaC10 = some ⟨cclC10, cddC10, .fields fvsC10, ccsC10⟩)
    (flC10 : fvsC10[2]? = some (.str fiC10 tfC10))
    (pfC10 : ((l.prog.main.file : Str) == fiC10) = true)
    (suC10 : PySem.W.mroIn K C10 (.ref C10) = some true)
    (svC10 : PySem.W.subIn K (.ref C10) (.type "ValueError") = some true)
    (siC10 : PySem.W.ks_superIn K C10 C10 "__init__" = some (some (.builtin "ValueError.__init__")))
    (aC11 : PySem.W.nsIn K mainGlobals "BadName" = some (some (.ref C11)))
    (lC11 : K.lookup C11 = some (PySem.excClassObj "BadName" qC11 C11 NC11 bsC11 [.ref CO, .type "ValueError", .type "Exception", .type "BaseException", .type "object"] true snC11 subC11 abC11 colC11 ddC11 k0C11 k1C11 k2C11 k3C11 k5C11 "ValueError.__new__"))
    (exC11 : PySem.W.subIn K (.ref C11) (.type "BaseException") = some true)
    (hdC11 : PySem.W.hasDictIn K C11 = true)
    (kpC11 : PySem.W.keepIn K (.ref C11) = true)
    (gaC11 : PySem.W.findIn K (.ref C11) "__getattribute__" = some (some (.builtin "BaseException.__getattribute__")))
    (ggC11 : PySem.W.findIn K (.ref C11) "__getattr__" = some none)
    (acC11 : PySem.W.findIn K (.ref C11) "__class__" = some (some (.builtin "object.__class__")))
    (moC11 : PySem.W.mroIn K C11 (.type "object") = some true)
    (tyC11 : PySem.W.typeIn K (.ref C11) = some (.type "type"))
    (saC11 : PySem.W.findIn K (.ref C11) "__setattr__" = some (some (.builtin "object.__setattr__")))
    (noC11_0 : PySem.W.findIn K (.ref C11) "name" = some none)
    (inC11 : PySem.W.findIn K (.ref C11) "__init__" = some (some (.ref fC11)))
    (tfC11i : PySem.W.typeIn K (.ref fC11) = some (.type "function"))
    (lfC11 : K.lookup fC11 = some ⟨ocC11, odC11, .func (PySem.W.ksFn "__init__" "BadName.__init__" (defArgs s_BadNameD_initD) (defBody s_BadNameD_initD) (defScope s_BadNameD_initD) .none kVC11 dcC11 pmC11 anC11 (.ref cdaC11) ctC11 ccC11), slC11⟩)
    (cdC11 : PySem.W.codeIn K (.ref cdaC11) "BadName.__init__" = true)
    (lcC11 : K.lookup ccC11 = some ⟨clC11, cldC11, .cell (some (.ref C11)), cslC11⟩)
    (ldC11 : K.lookup cdaC11 = some ⟨cclC11, cddC11, .fields fvsC11, ccsC11⟩)
    (flC11 : fvsC11[2]? = some (.str fiC11 tfC11))
    (pfC11 : ((l.prog.main.file : Str) == fiC11) = true)
    (suC11 : PySem.W.mroIn K C11 (.ref C11) = some true)
    (svC11 : PySem.W.subIn K (.ref C11) (.type "ValueError") = some true)
    (siC11 : PySem.W.ks_superIn K C11 C11 "__init__" = some (some (.builtin "ValueError.__init__")))
    (aC12 : PySem.W.nsIn K mainGlobals "NotLent" = some (some (.ref C12)))
    (lC12 : K.lookup C12 = some (PySem.excClassObj "NotLent" qC12 C12 NC12 bsC12 [.ref CO, .type "ValueError", .type "Exception", .type "BaseException", .type "object"] true snC12 subC12 abC12 colC12 ddC12 k0C12 k1C12 k2C12 k3C12 k5C12 "ValueError.__new__"))
    (exC12 : PySem.W.subIn K (.ref C12) (.type "BaseException") = some true)
    (hdC12 : PySem.W.hasDictIn K C12 = true)
    (kpC12 : PySem.W.keepIn K (.ref C12) = true)
    (gaC12 : PySem.W.findIn K (.ref C12) "__getattribute__" = some (some (.builtin "BaseException.__getattribute__")))
    (ggC12 : PySem.W.findIn K (.ref C12) "__getattr__" = some none)
    (acC12 : PySem.W.findIn K (.ref C12) "__class__" = some (some (.builtin "object.__class__")))
    (moC12 : PySem.W.mroIn K C12 (.type "object") = some true)
    (tyC12 : PySem.W.typeIn K (.ref C12) = some (.type "type"))
    (saC12 : PySem.W.findIn K (.ref C12) "__setattr__" = some (some (.builtin "object.__setattr__")))
    (noC12_0 : PySem.W.findIn K (.ref C12) "number" = some none)
    (inC12 : PySem.W.findIn K (.ref C12) "__init__" = some (some (.ref fC12)))
    (tfC12i : PySem.W.typeIn K (.ref fC12) = some (.type "function"))
    (lfC12 : K.lookup fC12 = some ⟨ocC12, odC12, .func (PySem.W.ksFn "__init__" "NotLent.__init__" (defArgs s_NotLentD_initD) (defBody s_NotLentD_initD) (defScope s_NotLentD_initD) .none kVC12 dcC12 pmC12 anC12 (.ref cdaC12) ctC12 ccC12), slC12⟩)
    (cdC12 : PySem.W.codeIn K (.ref cdaC12) "NotLent.__init__" = true)
    (lcC12 : K.lookup ccC12 = some ⟨clC12, cldC12, .cell (some (.ref C12)), cslC12⟩)
    (ldC12 : K.lookup cdaC12 = some ⟨cclC12, cddC12, .fields fvsC12, ccsC12⟩)
    (flC12 : fvsC12[2]? = some (.str fiC12 tfC12))
    (pfC12 : ((l.prog.main.file : Str) == fiC12) = true)
    (suC12 : PySem.W.mroIn K C12 (.ref C12) = some true)
    (svC12 : PySem.W.subIn K (.ref C12) (.type "ValueError") = some true)
    (siC12 : PySem.W.ks_superIn K C12 C12 "__init__" = some (some (.builtin "ValueError.__init__")))
    (aC13 : PySem.W.nsIn K mainGlobals "BadMove" = some (some (.ref C13)))
    (lC13 : K.lookup C13 = some (PySem.excClassObj "BadMove" qC13 C13 NC13 bsC13 [.ref CO, .type "ValueError", .type "Exception", .type "BaseException", .type "object"] true snC13 subC13 abC13 colC13 ddC13 k0C13 k1C13 k2C13 k3C13 k5C13 "ValueError.__new__"))
    (exC13 : PySem.W.subIn K (.ref C13) (.type "BaseException") = some true)
    (hdC13 : PySem.W.hasDictIn K C13 = true)
    (kpC13 : PySem.W.keepIn K (.ref C13) = true)
    (gaC13 : PySem.W.findIn K (.ref C13) "__getattribute__" = some (some (.builtin "BaseException.__getattribute__")))
    (ggC13 : PySem.W.findIn K (.ref C13) "__getattr__" = some none)
    (acC13 : PySem.W.findIn K (.ref C13) "__class__" = some (some (.builtin "object.__class__")))
    (moC13 : PySem.W.mroIn K C13 (.type "object") = some true)
    (tyC13 : PySem.W.typeIn K (.ref C13) = some (.type "type"))
    (saC13 : PySem.W.findIn K (.ref C13) "__setattr__" = some (some (.builtin "object.__setattr__")))
    (noC13_0 : PySem.W.findIn K (.ref C13) "at" = some none)
    (inC13 : PySem.W.findIn K (.ref C13) "__init__" = some (some (.ref fC13)))
    (tfC13i : PySem.W.typeIn K (.ref fC13) = some (.type "function"))
    (lfC13 : K.lookup fC13 = some ⟨ocC13, odC13, .func (PySem.W.ksFn "__init__" "BadMove.__init__" (defArgs s_BadMoveD_initD) (defBody s_BadMoveD_initD) (defScope s_BadMoveD_initD) .none kVC13 dcC13 pmC13 anC13 (.ref cdaC13) ctC13 ccC13), slC13⟩)
    (cdC13 : PySem.W.codeIn K (.ref cdaC13) "BadMove.__init__" = true)
    (lcC13 : K.lookup ccC13 = some ⟨clC13, cldC13, .cell (some (.ref C13)), cslC13⟩)
    (ldC13 : K.lookup cdaC13 = some ⟨cclC13, cddC13, .fields fvsC13, ccsC13⟩)
    (flC13 : fvsC13[2]? = some (.str fiC13 tfC13))
    (pfC13 : ((l.prog.main.file : Str) == fiC13) = true)
    (suC13 : PySem.W.mroIn K C13 (.ref C13) = some true)
    (svC13 : PySem.W.subIn K (.ref C13) (.type "ValueError") = some true)
    (siC13 : PySem.W.ks_superIn K C13 C13 "__init__" = some (some (.builtin "ValueError.__init__")))
    (aC14 : PySem.W.nsIn K mainGlobals "Faulty" = some (some (.ref C14)))
    (lC14 : K.lookup C14 = some (PySem.excClassObj "Faulty" qC14 C14 NC14 bsC14 [.ref CO, .type "ValueError", .type "Exception", .type "BaseException", .type "object"] true snC14 subC14 abC14 colC14 ddC14 k0C14 k1C14 k2C14 k3C14 k5C14 "ValueError.__new__"))
    (exC14 : PySem.W.subIn K (.ref C14) (.type "BaseException") = some true)
    (hdC14 : PySem.W.hasDictIn K C14 = true)
    (kpC14 : PySem.W.keepIn K (.ref C14) = true)
    (gaC14 : PySem.W.findIn K (.ref C14) "__getattribute__" = some (some (.builtin "BaseException.__getattribute__")))
    (ggC14 : PySem.W.findIn K (.ref C14) "__getattr__" = some none)
    (acC14 : PySem.W.findIn K (.ref C14) "__class__" = some (some (.builtin "object.__class__")))
    (moC14 : PySem.W.mroIn K C14 (.type "object") = some true)
    (tyC14 : PySem.W.typeIn K (.ref C14) = some (.type "type"))
    (saC14 : PySem.W.findIn K (.ref C14) "__setattr__" = some (some (.builtin "object.__setattr__")))
    (noC14_0 : PySem.W.findIn K (.ref C14) "kind" = some none)
    (noC14_1 : PySem.W.findIn K (.ref C14) "lengths" = some none)
    (noC14_2 : PySem.W.findIn K (.ref C14) "moves" = some none)
    (inC14 : PySem.W.findIn K (.ref C14) "__init__" = some (some (.ref fC14)))
    (tfC14i : PySem.W.typeIn K (.ref fC14) = some (.type "function"))
    (lfC14 : K.lookup fC14 = some ⟨ocC14, odC14, .func (PySem.W.ksFn "__init__" "Faulty.__init__" (defArgs s_FaultyD_initD) (defBody s_FaultyD_initD) (defScope s_FaultyD_initD) .none kVC14 dcC14 pmC14 anC14 (.ref cdaC14) ctC14 ccC14), slC14⟩)
    (cdC14 : PySem.W.codeIn K (.ref cdaC14) "Faulty.__init__" = true)
    (lcC14 : K.lookup ccC14 = some ⟨clC14, cldC14, .cell (some (.ref C14)), cslC14⟩)
    (ldC14 : K.lookup cdaC14 = some ⟨cclC14, cddC14, .fields fvsC14, ccsC14⟩)
    (flC14 : fvsC14[2]? = some (.str fiC14 tfC14))
    (pfC14 : ((l.prog.main.file : Str) == fiC14) = true)
    (suC14 : PySem.W.mroIn K C14 (.ref C14) = some true)
    (svC14 : PySem.W.subIn K (.ref C14) (.type "ValueError") = some true)
    (siC14 : PySem.W.ks_superIn K C14 C14 "__init__" = some (some (.builtin "ValueError.__init__")))
    : ∃ fd : FuncData, (∀ (s : Shared) (v : Value), BindsTo s fd ⟨[v], []⟩ [("script", v)]) ∧ ∀ base : Heap, K.In base → base.Ns mainGlobals mg → FnOk l.prog w K mg base CX0 6 fa fd ["script"] (spLaw K) := by
  have e := hfa.symm.trans (PySem.W.mg_of X G a7)
  cases e
  have F0 := fun_mk (st := s_law_bag) l0 c0 k0
  have b0 := F0.binds (ps := ["script", "place"]) fun _ _ _ _ _ _ us hl => match us, hl with | [_, _], _ => rfl
  have F1 := fun_mk (st := s_law_take) l1 c1 k1
  have b1 := F1.binds (ps := ["bag", "many"]) fun _ _ _ _ _ _ us hl => match us, hl with | [_, _], _ => rfl
  have F2 := fun_mk (st := s_law_of) l2 c2 k2
  have b2 := F2.binds (ps := ["bag", "some"]) fun _ _ _ _ _ _ us hl => match us, hl with | [_, _], _ => rfl
  have F3 := fun_mk (st := s_law_number) l3 c3 k3
  have b3 := F3.binds (ps := ["bag"]) fun _ _ _ _ _ _ us hl => match us, hl with | [_], _ => rfl
  have F4 := fun_mk (st := s_law_fields) l4 c4 k4
  have b4 := F4.binds (ps := ["count", "text", "sizes", "pairs"]) fun _ _ _ _ _ _ us hl => match us, hl with | [_, _, _, _], _ => rfl
  have F5 := fun_mk (st := s_law_made) l5 c5 k5
  have b5 := F5.binds (ps := ["count", "text"]) fun _ _ _ _ _ _ us hl => match us, hl with | [_, _], _ => rfl
  have F6 := fun_mk (st := s_law_classes) l6 c6 k6
  have b6 := F6.binds (ps := ["e"]) fun _ _ _ _ _ _ us hl => match us, hl with | [_], _ => rfl
  have F7 := fun_mk (st := s_law) l7 c7 k7
  have b7 := F7.binds (ps := ["script"]) fun _ _ _ _ _ _ us hl => match us, hl with | [_], _ => rfl
  have T : Txt mg := ⟨PySem.W.mg_none_of X G zlen, PySem.W.mg_none_of X G zabs, PySem.W.mg_none_of X G zint, PySem.W.mg_none_of X G zstr, PySem.W.mg_none_of X G zmin, PySem.W.mg_none_of X G zmax, PySem.W.mg_none_of X G zall, PySem.W.mg_none_of X G zrange, PySem.W.mg_none_of X G zsorted, PySem.W.mg_none_of X G zlist, PySem.W.mg_none_of X G ztuple, PySem.W.mg_none_of X G zdict, PySem.W.mg_none_of X G zisinstance, PySem.W.mg_none_of X G zsum⟩
  have gCO := PySem.W.mg_of X G aCO
  have ECO : L2.ExcC K CO := ⟨gaCO, ggCO, exCO, hdCO, acCO, xn, xt, moCO⟩
  have LCO : Lk K CO "OwedError" [.type "ValueError", .type "Exception", .type "BaseException", .type "object"] := ⟨_, _, _, _, _, _, _, _, _, _, _, _, _, lCO⟩
  have gC0 := PySem.W.mg_of X G aC0
  have EC0 : L2.ExcC K C0 := ⟨gaC0, ggC0, exC0, hdC0, acC0, xn, xt, moC0⟩
  have LC0 : Lk K C0 "BadSymbol" [.ref CO, .type "ValueError", .type "Exception", .type "BaseException", .type "object"] := ⟨_, _, _, _, _, _, _, _, _, _, _, _, _, lC0⟩
  have OC0 : OexC K C0 := ⟨⟨_, _, _, _, _, _, _, _, _, _, _, _, _, _, _, lC0, rfl⟩, saC0, exC0, tyC0, kpC0⟩
  have GC0 : ErX.ErC K l.prog C0 fC0 ccC0 cdaC0 := ⟨OC0, ⟨_, _, _, lcC0⟩, ⟨_, _, _, _, _, _, ldC0, flC0, pfC0⟩, zsuper, zthird, suC0, svC0, siC0, tops⟩
  have xC0 : XfC K C0 := ⟨gaC0, ggC0, exC0, hdC0⟩
  have M0 : ∀ base : Heap, EvX.ErV l.prog w K mg base 2 "BadSymbol" C0 ["symbol"] (EvX.spEw C0 "symbol") := fun base => ⟨OC0, gC0, fC0, _, inC0, tfC0i, ok_er_BadSymbol lfC0 cdC0 GC0 noC0_0, (fun s us hl => match us, hl with | [_, _], _ => .of_eq rfl), (fun s u us hl => match us, hl with | [_], _ => .of_eq rfl)⟩
  have gC1 := PySem.W.mg_of X G aC1
  have EC1 : L2.ExcC K C1 := ⟨gaC1, ggC1, exC1, hdC1, acC1, xn, xt, moC1⟩
  have LC1 : Lk K C1 "BadDomain" [.ref CO, .type "ValueError", .type "Exception", .type "BaseException", .type "object"] := ⟨_, _, _, _, _, _, _, _, _, _, _, _, _, lC1⟩
  have OC1 : OexC K C1 := ⟨⟨_, _, _, _, _, _, _, _, _, _, _, _, _, _, _, lC1, rfl⟩, saC1, exC1, tyC1, kpC1⟩
  have GC1 : ErX.ErC K l.prog C1 fC1 ccC1 cdaC1 := ⟨OC1, ⟨_, _, _, lcC1⟩, ⟨_, _, _, _, _, _, ldC1, flC1, pfC1⟩, zsuper, zthird, suC1, svC1, siC1, tops⟩
  have xC1 : XfC K C1 := ⟨gaC1, ggC1, exC1, hdC1⟩
  have M1 : ∀ base : Heap, EvX.ErV l.prog w K mg base 2 "BadDomain" C1 ["symbol"] (EvX.spEw C1 "symbol") := fun base => ⟨OC1, gC1, fC1, _, inC1, tfC1i, ok_er_BadDomain lfC1 cdC1 GC1 noC1_0, (fun s us hl => match us, hl with | [_, _], _ => .of_eq rfl), (fun s u us hl => match us, hl with | [_], _ => .of_eq rfl)⟩
  have gC2 := PySem.W.mg_of X G aC2
  have EC2 : L2.ExcC K C2 := ⟨gaC2, ggC2, exC2, hdC2, acC2, xn, xt, moC2⟩
  have LC2 : Lk K C2 "BadFunction" [.ref CO, .type "ValueError", .type "Exception", .type "BaseException", .type "object"] := ⟨_, _, _, _, _, _, _, _, _, _, _, _, _, lC2⟩
  have OC2 : OexC K C2 := ⟨⟨_, _, _, _, _, _, _, _, _, _, _, _, _, _, _, lC2, rfl⟩, saC2, exC2, tyC2, kpC2⟩
  have GC2 : ErX.ErC K l.prog C2 fC2 ccC2 cdaC2 := ⟨OC2, ⟨_, _, _, lcC2⟩, ⟨_, _, _, _, _, _, ldC2, flC2, pfC2⟩, zsuper, zthird, suC2, svC2, siC2, tops⟩
  have xC2 : XfC K C2 := ⟨gaC2, ggC2, exC2, hdC2⟩
  have M2 : ∀ base : Heap, EvX.ErV l.prog w K mg base 2 "BadFunction" C2 ["row"] (EvX.spEw C2 "row") := fun base => ⟨OC2, gC2, fC2, _, inC2, tfC2i, ok_er_BadFunction lfC2 cdC2 GC2 noC2_0, (fun s us hl => match us, hl with | [_, _], _ => .of_eq rfl), (fun s u us hl => match us, hl with | [_], _ => .of_eq rfl)⟩
  have gC3 := PySem.W.mg_of X G aC3
  have EC3 : L2.ExcC K C3 := ⟨gaC3, ggC3, exC3, hdC3, acC3, xn, xt, moC3⟩
  have LC3 : Lk K C3 "TooMany" [.ref CO, .type "ValueError", .type "Exception", .type "BaseException", .type "object"] := ⟨_, _, _, _, _, _, _, _, _, _, _, _, _, lC3⟩
  have OC3 : OexC K C3 := ⟨⟨_, _, _, _, _, _, _, _, _, _, _, _, _, _, _, lC3, rfl⟩, saC3, exC3, tyC3, kpC3⟩
  have GC3 : ErX.ErC K l.prog C3 fC3 ccC3 cdaC3 := ⟨OC3, ⟨_, _, _, lcC3⟩, ⟨_, _, _, _, _, _, ldC3, flC3, pfC3⟩, zsuper, zthird, suC3, svC3, siC3, tops⟩
  have xC3 : XfC K C3 := ⟨gaC3, ggC3, exC3, hdC3⟩
  have M3 : ∀ base : Heap, EvX.ErV l.prog w K mg base 2 "TooMany" C3 ["what"] (EvX.spEw C3 "what") := fun base => ⟨OC3, gC3, fC3, _, inC3, tfC3i, ok_er_TooMany lfC3 cdC3 GC3 noC3_0, (fun s us hl => match us, hl with | [_, _], _ => .of_eq rfl), (fun s u us hl => match us, hl with | [_], _ => .of_eq rfl)⟩
  have gC4 := PySem.W.mg_of X G aC4
  have EC4 : L2.ExcC K C4 := ⟨gaC4, ggC4, exC4, hdC4, acC4, xn, xt, moC4⟩
  have LC4 : Lk K C4 "NotCut" [.ref CO, .type "ValueError", .type "Exception", .type "BaseException", .type "object"] := ⟨_, _, _, _, _, _, _, _, _, _, _, _, _, lC4⟩
  have OC4 : OexC K C4 := ⟨⟨_, _, _, _, _, _, _, _, _, _, _, _, _, _, _, lC4, rfl⟩, saC4, exC4, tyC4, kpC4⟩
  have GC4 : ErX.ErC K l.prog C4 fC4 ccC4 cdaC4 := ⟨OC4, ⟨_, _, _, lcC4⟩, ⟨_, _, _, _, _, _, ldC4, flC4, pfC4⟩, zsuper, zthird, suC4, svC4, siC4, tops⟩
  have xC4 : XfC K C4 := ⟨gaC4, ggC4, exC4, hdC4⟩
  have M4 : ∀ base : Heap, EvX.ErV l.prog w K mg base 2 "NotCut" C4 ["row"] (EvX.spEw C4 "row") := fun base => ⟨OC4, gC4, fC4, _, inC4, tfC4i, ok_er_NotCut lfC4 cdC4 GC4 noC4_0, (fun s us hl => match us, hl with | [_, _], _ => .of_eq rfl), (fun s u us hl => match us, hl with | [_], _ => .of_eq rfl)⟩
  have gC5 := PySem.W.mg_of X G aC5
  have EC5 : L2.ExcC K C5 := ⟨gaC5, ggC5, exC5, hdC5, acC5, xn, xt, moC5⟩
  have LC5 : Lk K C5 "Amid" [.ref CO, .type "ValueError", .type "Exception", .type "BaseException", .type "object"] := ⟨_, _, _, _, _, _, _, _, _, _, _, _, _, lC5⟩
  have OC5 : OexC K C5 := ⟨⟨_, _, _, _, _, _, _, _, _, _, _, _, _, _, _, lC5, rfl⟩, saC5, exC5, tyC5, kpC5⟩
  have GC5 : ErX.ErC K l.prog C5 fC5 ccC5 cdaC5 := ⟨OC5, ⟨_, _, _, lcC5⟩, ⟨_, _, _, _, _, _, ldC5, flC5, pfC5⟩, zsuper, zthird, suC5, svC5, siC5, tops⟩
  have xC5 : XfC K C5 := ⟨gaC5, ggC5, exC5, hdC5⟩
  have M5 : ∀ base : Heap, EvX.ErV l.prog w K mg base 2 "Amid" C5 ["half"] (EvX.spEw C5 "half") := fun base => ⟨OC5, gC5, fC5, _, inC5, tfC5i, ok_er_Amid lfC5 cdC5 GC5 noC5_0, (fun s us hl => match us, hl with | [_, _], _ => .of_eq rfl), (fun s u us hl => match us, hl with | [_], _ => .of_eq rfl)⟩
  have gC6 := PySem.W.mg_of X G aC6
  have EC6 : L2.ExcC K C6 := ⟨gaC6, ggC6, exC6, hdC6, acC6, xn, xt, moC6⟩
  have LC6 : Lk K C6 "Closed" [.ref CO, .type "ValueError", .type "Exception", .type "BaseException", .type "object"] := ⟨_, _, _, _, _, _, _, _, _, _, _, _, _, lC6⟩
  have OC6 : OexC K C6 := ⟨⟨_, _, _, _, _, _, _, _, _, _, _, _, _, _, _, lC6, rfl⟩, saC6, exC6, tyC6, kpC6⟩
  have GC6 : ErX.ErC K l.prog C6 fC6 ccC6 cdaC6 := ⟨OC6, ⟨_, _, _, lcC6⟩, ⟨_, _, _, _, _, _, ldC6, flC6, pfC6⟩, zsuper, zthird, suC6, svC6, siC6, tops⟩
  have xC6 : XfC K C6 := ⟨gaC6, ggC6, exC6, hdC6⟩
  have M6 : ∀ base : Heap, EvX.ErV l.prog w K mg base 2 "Closed" C6 ["number"] (EvX.spEw C6 "number") := fun base => ⟨OC6, gC6, fC6, _, inC6, tfC6i, ok_er_Closed lfC6 cdC6 GC6 noC6_0, (fun s us hl => match us, hl with | [_, _], _ => .of_eq rfl), (fun s u us hl => match us, hl with | [_], _ => .of_eq rfl)⟩
  have gC7 := PySem.W.mg_of X G aC7
  have EC7 : L2.ExcC K C7 := ⟨gaC7, ggC7, exC7, hdC7, acC7, xn, xt, moC7⟩
  have LC7 : Lk K C7 "Starved" [.ref CO, .type "ValueError", .type "Exception", .type "BaseException", .type "object"] := ⟨_, _, _, _, _, _, _, _, _, _, _, _, _, lC7⟩
  have OC7 : OexC K C7 := ⟨⟨_, _, _, _, _, _, _, _, _, _, _, _, _, _, _, lC7, rfl⟩, saC7, exC7, tyC7, kpC7⟩
  have GC7 : ErX.ErC K l.prog C7 fC7 ccC7 cdaC7 := ⟨OC7, ⟨_, _, _, lcC7⟩, ⟨_, _, _, _, _, _, ldC7, flC7, pfC7⟩, zsuper, zthird, suC7, svC7, siC7, tops⟩
  have xC7 : XfC K C7 := ⟨gaC7, ggC7, exC7, hdC7⟩
  have M7 : ∀ base : Heap, EvX.ErV l.prog w K mg base 2 "Starved" C7 ["number"] (EvX.spEw C7 "number") := fun base => ⟨OC7, gC7, fC7, _, inC7, tfC7i, ok_er_Starved lfC7 cdC7 GC7 noC7_0, (fun s us hl => match us, hl with | [_, _], _ => .of_eq rfl), (fun s u us hl => match us, hl with | [_], _ => .of_eq rfl)⟩
  have gC8 := PySem.W.mg_of X G aC8
  have EC8 : L2.ExcC K C8 := ⟨gaC8, ggC8, exC8, hdC8, acC8, xn, xt, moC8⟩
  have LC8 : Lk K C8 "Failed" [.ref CO, .type "ValueError", .type "Exception", .type "BaseException", .type "object"] := ⟨_, _, _, _, _, _, _, _, _, _, _, _, _, lC8⟩
  have OC8 : OexC K C8 := ⟨⟨_, _, _, _, _, _, _, _, _, _, _, _, _, _, _, lC8, rfl⟩, saC8, exC8, tyC8, kpC8⟩
  have GC8 : ErX.ErC K l.prog C8 fC8 ccC8 cdaC8 := ⟨OC8, ⟨_, _, _, lcC8⟩, ⟨_, _, _, _, _, _, ldC8, flC8, pfC8⟩, zsuper, zthird, suC8, svC8, siC8, tops⟩
  have xC8 : XfC K C8 := ⟨gaC8, ggC8, exC8, hdC8⟩
  have M8 : ∀ base : Heap, EvX.ErV l.prog w K mg base 2 "Failed" C8 ["row"] (EvX.spEw C8 "row") := fun base => ⟨OC8, gC8, fC8, _, inC8, tfC8i, ok_er_Failed lfC8 cdC8 GC8 noC8_0, (fun s us hl => match us, hl with | [_, _], _ => .of_eq rfl), (fun s u us hl => match us, hl with | [_], _ => .of_eq rfl)⟩
  have gC9 := PySem.W.mg_of X G aC9
  have EC9 : L2.ExcC K C9 := ⟨gaC9, ggC9, exC9, hdC9, acC9, xn, xt, moC9⟩
  have LC9 : Lk K C9 "Cut" [.ref CO, .type "ValueError", .type "Exception", .type "BaseException", .type "object"] := ⟨_, _, _, _, _, _, _, _, _, _, _, _, _, lC9⟩
  have OC9 : OexC K C9 := ⟨⟨_, _, _, _, _, _, _, _, _, _, _, _, _, _, _, lC9, rfl⟩, saC9, exC9, tyC9, kpC9⟩
  have GC9 : ErX.ErC K l.prog C9 fC9 ccC9 cdaC9 := ⟨OC9, ⟨_, _, _, lcC9⟩, ⟨_, _, _, _, _, _, ldC9, flC9, pfC9⟩, zsuper, zthird, suC9, svC9, siC9, tops⟩
  have xC9 : XfC K C9 := ⟨gaC9, ggC9, exC9, hdC9⟩
  have M9 : ∀ base : Heap, EvX.ErV l.prog w K mg base 2 "Cut" C9 ["row"] (EvX.spEw C9 "row") := fun base => ⟨OC9, gC9, fC9, _, inC9, tfC9i, ok_er_Cut lfC9 cdC9 GC9 noC9_0, (fun s us hl => match us, hl with | [_, _], _ => .of_eq rfl), (fun s u us hl => match us, hl with | [_], _ => .of_eq rfl)⟩
  have gC10 := PySem.W.mg_of X G aC10
  have EC10 : L2.ExcC K C10 := ⟨gaC10, ggC10, exC10, hdC10, acC10, xn, xt, moC10⟩
  have LC10 : Lk K C10 "BadDoor" [.ref CO, .type "ValueError", .type "Exception", .type "BaseException", .type "object"] := ⟨_, _, _, _, _, _, _, _, _, _, _, _, _, lC10⟩
  have OC10 : OexC K C10 := ⟨⟨_, _, _, _, _, _, _, _, _, _, _, _, _, _, _, lC10, rfl⟩, saC10, exC10, tyC10, kpC10⟩
  have GC10 : ErX.ErC K l.prog C10 fC10 ccC10 cdaC10 := ⟨OC10, ⟨_, _, _, lcC10⟩, ⟨_, _, _, _, _, _, ldC10, flC10, pfC10⟩, zsuper, zthird, suC10, svC10, siC10, tops⟩
  have xC10 : XfC K C10 := ⟨gaC10, ggC10, exC10, hdC10⟩
  have M10 : ∀ base : Heap, EvX.ErV l.prog w K mg base 2 "BadDoor" C10 ["word"] (EvX.spEw C10 "word") := fun base => ⟨OC10, gC10, fC10, _, inC10, tfC10i, ok_er_BadDoor lfC10 cdC10 GC10 noC10_0, (fun s us hl => match us, hl with | [_, _], _ => .of_eq rfl), (fun s u us hl => match us, hl with | [_], _ => .of_eq rfl)⟩
  have gC11 := PySem.W.mg_of X G aC11
  have EC11 : L2.ExcC K C11 := ⟨gaC11, ggC11, exC11, hdC11, acC11, xn, xt, moC11⟩
  have LC11 : Lk K C11 "BadName" [.ref CO, .type "ValueError", .type "Exception", .type "BaseException", .type "object"] := ⟨_, _, _, _, _, _, _, _, _, _, _, _, _, lC11⟩
  have OC11 : OexC K C11 := ⟨⟨_, _, _, _, _, _, _, _, _, _, _, _, _, _, _, lC11, rfl⟩, saC11, exC11, tyC11, kpC11⟩
  have GC11 : ErX.ErC K l.prog C11 fC11 ccC11 cdaC11 := ⟨OC11, ⟨_, _, _, lcC11⟩, ⟨_, _, _, _, _, _, ldC11, flC11, pfC11⟩, zsuper, zthird, suC11, svC11, siC11, tops⟩
  have xC11 : XfC K C11 := ⟨gaC11, ggC11, exC11, hdC11⟩
  have M11 : ∀ base : Heap, EvX.ErV l.prog w K mg base 2 "BadName" C11 ["name"] (EvX.spEw C11 "name") := fun base => ⟨OC11, gC11, fC11, _, inC11, tfC11i, ok_er_BadName lfC11 cdC11 GC11 noC11_0, (fun s us hl => match us, hl with | [_, _], _ => .of_eq rfl), (fun s u us hl => match us, hl with | [_], _ => .of_eq rfl)⟩
  have gC12 := PySem.W.mg_of X G aC12
  have EC12 : L2.ExcC K C12 := ⟨gaC12, ggC12, exC12, hdC12, acC12, xn, xt, moC12⟩
  have LC12 : Lk K C12 "NotLent" [.ref CO, .type "ValueError", .type "Exception", .type "BaseException", .type "object"] := ⟨_, _, _, _, _, _, _, _, _, _, _, _, _, lC12⟩
  have OC12 : OexC K C12 := ⟨⟨_, _, _, _, _, _, _, _, _, _, _, _, _, _, _, lC12, rfl⟩, saC12, exC12, tyC12, kpC12⟩
  have GC12 : ErX.ErC K l.prog C12 fC12 ccC12 cdaC12 := ⟨OC12, ⟨_, _, _, lcC12⟩, ⟨_, _, _, _, _, _, ldC12, flC12, pfC12⟩, zsuper, zthird, suC12, svC12, siC12, tops⟩
  have xC12 : XfC K C12 := ⟨gaC12, ggC12, exC12, hdC12⟩
  have M12 : ∀ base : Heap, EvX.ErV l.prog w K mg base 2 "NotLent" C12 ["number"] (EvX.spEw C12 "number") := fun base => ⟨OC12, gC12, fC12, _, inC12, tfC12i, ok_er_NotLent lfC12 cdC12 GC12 noC12_0, (fun s us hl => match us, hl with | [_, _], _ => .of_eq rfl), (fun s u us hl => match us, hl with | [_], _ => .of_eq rfl)⟩
  have gC13 := PySem.W.mg_of X G aC13
  have EC13 : L2.ExcC K C13 := ⟨gaC13, ggC13, exC13, hdC13, acC13, xn, xt, moC13⟩
  have LC13 : Lk K C13 "BadMove" [.ref CO, .type "ValueError", .type "Exception", .type "BaseException", .type "object"] := ⟨_, _, _, _, _, _, _, _, _, _, _, _, _, lC13⟩
  have OC13 : OexC K C13 := ⟨⟨_, _, _, _, _, _, _, _, _, _, _, _, _, _, _, lC13, rfl⟩, saC13, exC13, tyC13, kpC13⟩
  have GC13 : ErX.ErC K l.prog C13 fC13 ccC13 cdaC13 := ⟨OC13, ⟨_, _, _, lcC13⟩, ⟨_, _, _, _, _, _, ldC13, flC13, pfC13⟩, zsuper, zthird, suC13, svC13, siC13, tops⟩
  have xC13 : XfC K C13 := ⟨gaC13, ggC13, exC13, hdC13⟩
  have M13 : ∀ base : Heap, EvX.ErV l.prog w K mg base 2 "BadMove" C13 ["at"] (EvX.spEw C13 "at") := fun base => ⟨OC13, gC13, fC13, _, inC13, tfC13i, ok_er_BadMove lfC13 cdC13 GC13 noC13_0, (fun s us hl => match us, hl with | [_, _], _ => .of_eq rfl), (fun s u us hl => match us, hl with | [_], _ => .of_eq rfl)⟩
  have gC14 := PySem.W.mg_of X G aC14
  have EC14 : L2.ExcC K C14 := ⟨gaC14, ggC14, exC14, hdC14, acC14, xn, xt, moC14⟩
  have LC14 : Lk K C14 "Faulty" [.ref CO, .type "ValueError", .type "Exception", .type "BaseException", .type "object"] := ⟨_, _, _, _, _, _, _, _, _, _, _, _, _, lC14⟩
  have OC14 : OexC K C14 := ⟨⟨_, _, _, _, _, _, _, _, _, _, _, _, _, _, _, lC14, rfl⟩, saC14, exC14, tyC14, kpC14⟩
  have GC14 : ErX.ErC K l.prog C14 fC14 ccC14 cdaC14 := ⟨OC14, ⟨_, _, _, lcC14⟩, ⟨_, _, _, _, _, _, ldC14, flC14, pfC14⟩, zsuper, zthird, suC14, svC14, siC14, tops⟩
  have xC14 : XfC K C14 := ⟨gaC14, ggC14, exC14, hdC14⟩
  have M14 : ∀ base : Heap, EvX.ErV l.prog w K mg base 2 "Faulty" C14 ["kind", "lengths", "moves"] (EvX.spE3 C14 "kind" "lengths" "moves") := fun base => ⟨OC14, gC14, fC14, _, inC14, tfC14i, ok_er_Faulty lfC14 cdC14 GC14 noC14_0 noC14_1 noC14_2, (fun s us hl => match us, hl with | [_, _, _, _], _ => .of_eq rfl), (fun s u us hl => match us, hl with | [_, _, _], _ => .of_eq rfl)⟩
  have hX : ∀ i, i < 15 → XfC K ((fun i => ([C0, C1, C2, C3, C4, C5, C6, C7, C8, C9, C10, C11, C12, C13, C14] : List Addr).getD i CO) i) := fun i hi => match i, hi with
    | 0, _ => xC0
    | 1, _ => xC1
    | 2, _ => xC2
    | 3, _ => xC3
    | 4, _ => xC4
    | 5, _ => xC5
    | 6, _ => xC6
    | 7, _ => xC7
    | 8, _ => xC8
    | 9, _ => xC9
    | 10, _ => xC10
    | 11, _ => xC11
    | 12, _ => xC12
    | 13, _ => xC13
    | 14, _ => xC14
  have hE : ∀ i, i < 15 → L2.ExcC K ((fun i => ([C0, C1, C2, C3, C4, C5, C6, C7, C8, C9, C10, C11, C12, C13, C14] : List Addr).getD i CO) i) := fun i hi => match i, hi with
    | 0, _ => EC0
    | 1, _ => EC1
    | 2, _ => EC2
    | 3, _ => EC3
    | 4, _ => EC4
    | 5, _ => EC5
    | 6, _ => EC6
    | 7, _ => EC7
    | 8, _ => EC8
    | 9, _ => EC9
    | 10, _ => EC10
    | 11, _ => EC11
    | 12, _ => EC12
    | 13, _ => EC13
    | 14, _ => EC14
  have hL : ∀ i, i < 15 → Lk K ((fun i => ([C0, C1, C2, C3, C4, C5, C6, C7, C8, C9, C10, C11, C12, C13, C14] : List Addr).getD i CO) i) (nms.getD i "") (.ref CO :: veT) := fun i hi => match i, hi with
    | 0, _ => LC0
    | 1, _ => LC1
    | 2, _ => LC2
    | 3, _ => LC3
    | 4, _ => LC4
    | 5, _ => LC5
    | 6, _ => LC6
    | 7, _ => LC7
    | 8, _ => LC8
    | 9, _ => LC9
    | 10, _ => LC10
    | 11, _ => LC11
    | 12, _ => LC12
    | 13, _ => LC13
    | 14, _ => LC14
  have c_bag : ∀ base : Heap, Cal l.prog w K mg base "_law_bag" 1 (spBag K) := fun base => ⟨_, _, _, PySem.W.mg_of X G a0, ok_bag F0 T, b0, k0⟩
  have c_take : ∀ base : Heap, Cal l.prog w K mg base "_law_take" 1 spTake := fun base => ⟨_, _, _, PySem.W.mg_of X G a1, ok_take F1 T, b1, k1⟩
  have c_number : ∀ base : Heap, Cal l.prog w K mg base "_law_number" 2 spNumber := fun base => ⟨_, _, _, PySem.W.mg_of X G a3, ok_number F3 T (c_take base), b3, k3⟩
  have c_pick : ∀ base : Heap, Cal l.prog w K mg base "_law_of" 2 spPick := fun base => ⟨_, _, _, PySem.W.mg_of X G a2, ok_pick F2 T (c_take base), b2, k2⟩
  have c_fields : ∀ base : Heap, Cal l.prog w K mg base "_law_fields" 4 spFields := fun base => ⟨_, _, _, PySem.W.mg_of X G a4, ok_fields (cs := (fun i => ([C0, C1, C2, C3, C4, C5, C6, C7, C8, C9, C10, C11, C12, C13, C14] : List Addr).getD i CO)) F4 T hX noC0_0 noC1_0 noC2_0 noC3_0 noC4_0 noC5_0 noC6_0 noC7_0 noC8_0 noC9_0 noC10_0 noC11_0 noC12_0 noC13_0 noC14_0 noC14_1 noC14_2 M0 M1 M2 M3 M4 M5 M6 M7 M8 M9 M10 M11 M12 M13 M14, b4, k4⟩
  have c_made : ∀ base : Heap, Cal l.prog w K mg base "_law_made" 4 (spMade (fun i => ([C0, C1, C2, C3, C4, C5, C6, C7, C8, C9, C10, C11, C12, C13, C14] : List Addr).getD i CO)) := fun base => ⟨_, _, _, PySem.W.mg_of X G a5, ok_made (cs := (fun i => ([C0, C1, C2, C3, C4, C5, C6, C7, C8, C9, C10, C11, C12, C13, C14] : List Addr).getD i CO)) F5 T M0 M1 M2 M3 M4 M5 M6 M7 M8 M9 M10 M11 M12 M13 M14, b5, k5⟩
  have c_classes : ∀ base : Heap, Cal l.prog w K mg base "_law_classes" 1 (spClasses K (fun i => ([C0, C1, C2, C3, C4, C5, C6, C7, C8, C9, C10, C11, C12, C13, C14] : List Addr).getD i CO)) := fun base => ⟨_, _, _, PySem.W.mg_of X G a6, ok_classes (cs := (fun i => ([C0, C1, C2, C3, C4, C5, C6, C7, C8, C9, C10, C11, C12, C13, C14] : List Addr).getD i CO)) F6 T M0 M1 M2 M3 M4 M5 M6 M7 M8 M9 M10 M11 M12 M13 M14, b6, k6⟩
  refine ⟨_, fun s v => .of_eq rfl, fun base _ _ => ok_law (cs := (fun i => ([C0, C1, C2, C3, C4, C5, C6, C7, C8, C9, C10, C11, C12, C13, C14] : List Addr).getD i CO)) (CO := CO) F7 T (PySem.W.mg_none_of X G zValueError) gCO exO kpCO (c_bag base) (c_number base) (c_pick base) (c_fields base) (c_made base) (c_classes base) hX hE ECO noC3_0 noC5_0 noC9_0 noC14_0 noC14_1 noC14_2 (kit_all hL LCO) (fun i hi => (hL i hi).up LCO (nms_no ⟨i, hi⟩)) (fun i hi => (hL i hi).ve rfl) (fun i hi => (hL i hi).down LCO (nms_no ⟨i, hi⟩)) (LCO.ve rfl)⟩
theorem walk {l : PySem.W.OpenLaw} {q : Program} {loose : List Str} {XP : (Str → Option Value) → Heap → Prop} {YP : World → Heap → Prop} {d : DefRec} {K : Params → PySem.W.Frag} (hn : l.most = some 63) (hdf : d.params.defaults = [])
    (hY : ∀ (w : World) (h : Heap), YP w h → (K w.params).In h)
    (F : ∀ (w : World) (mg : Str → Option Value) (fa : Addr) (h : Heap), (K w.params).In h → h.Ns mainGlobals mg → mg d.name = some (.ref fa) →
      ∃ fd : FuncData, (∀ (s : Shared) (u : Value), BindsTo s fd ⟨[u], []⟩ [("script", u)]) ∧ ∀ base : Heap, (K w.params).In base → base.Ns mainGlobals mg → FnOk l.prog w (K w.params) mg base CX0 6 fa fd ["script"] (spLaw (K w.params))) :
    PySem.W.WalkO q loose XP YP l.row.toRowW d [] (fun f vs => PySem.call f vs) :=
  L2.walk_of (n := 63) (k := 6) (x := "script") (CX := fun _ => CX0) (sp := fun w => spLaw (K w.params)) hn (by decide) hdf ⟨rfl, by decide, by decide⟩ hY F (fun _ _ a ns hl _ hS => ⟨a, ns, rfl, hS, hl, fun _ => rfl⟩) fun _ _ _ _ _ z => z
end Ow

open PySem PySem.W PyProof.Rows in
set_option maxRecDepth 100000 in
set_option maxHeartbeats 0 in
theorem PySem.Challenge.cw_owedanswers_k17_errors_made_holds : PySem.Challenge.rw_owedanswers_k17_errors_made.Holds := by
  w_on; o_law; k_head; (case hw => w_witness2)
  k_fill
  refine Ow.walk (l := PySem.Challenge.rw_owedanswers_k17_errors_made) rfl rfl (fun w h Y => PySem.W.kIn_of Y) ?F
  case F =>
    intro w mg fa h KX G hmg
    refine' Ow.all_mk KX G hmg ?a0 ?l0 ?c0 ?k0 ?a1 ?l1 ?c1 ?k1 ?a2 ?l2 ?c2 ?k2 ?a3 ?l3 ?c3 ?k3 ?a4 ?l4 ?c4 ?k4 ?a5 ?l5 ?c5 ?k5 ?a6 ?l6 ?c6 ?k6 ?a7 ?l7 ?c7 ?k7 ?zlen ?zabs ?zint ?zstr ?zmin ?zmax ?zall ?zrange ?zsorted ?zlist ?ztuple ?zdict ?zisinstance ?zsum ?zValueError ?aCO ?lCO ?exCO ?hdCO ?kpCO ?gaCO ?ggCO ?acCO ?xn ?xt ?moCO ?exO ?aC0 ?lC0 ?exC0 ?hdC0 ?kpC0 ?gaC0 ?ggC0 ?acC0 ?moC0 ?tyC0 ?saC0 ?noC0_0 ?inC0 ?tfC0i ?lfC0 ?cdC0 ?lcC0 ?ldC0 ?flC0 ?pfC0 ?zsuper ?zthird ?suC0 ?svC0 ?siC0 ?tops ?aC1 ?lC1 ?exC1 ?hdC1 ?kpC1 ?gaC1 ?ggC1 ?acC1 ?moC1 ?tyC1 ?saC1 ?noC1_0 ?inC1 ?tfC1i ?lfC1 ?cdC1 ?lcC1 ?ldC1 ?flC1 ?pfC1 ?suC1 ?svC1 ?siC1 ?aC2 ?lC2 ?exC2 ?hdC2 ?kpC2 ?gaC2 ?ggC2 ?acC2 ?moC2 ?tyC2 ?saC2 ?noC2_0 ?inC2 ?tfC2i ?lfC2 ?cdC2 ?lcC2 ?ldC2 ?flC2 ?pfC2 ?suC2 ?svC2 ?siC2 ?aC3 ?lC3 ?exC3 ?hdC3 ?kpC3 ?gaC3 ?ggC3 ?acC3 ?moC3 ?tyC3 ?saC3 ?noC3_0 ?inC3 ?tfC3i ?lfC3 ?cdC3 ?lcC3 ?ldC3 ?flC3 ?pfC3 ?suC3 ?svC3 ?siC3 ?aC4 ?lC4 ?exC4 ?hdC4 ?kpC4 ?gaC4 ?ggC4 ?acC4 ?moC4 ?tyC4 ?saC4 ?noC4_0 ?inC4 ?tfC4i ?lfC4 ?cdC4 ?lcC4 ?ldC4 ?flC4 ?pfC4 ?suC4 ?svC4 ?siC4 ?aC5 ?lC5 ?exC5 ?hdC5 ?kpC5 ?gaC5 ?ggC5 ?acC5 ?moC5 ?tyC5 ?saC5 ?noC5_0 ?inC5 ?tfC5i ?lfC5 ?cdC5 ?lcC5 ?ldC5 ?flC5 ?pfC5 ?suC5 ?svC5 ?siC5 ?aC6 ?lC6 ?exC6 ?hdC6 ?kpC6 ?gaC6 ?ggC6 ?acC6 ?moC6 ?tyC6 ?saC6 ?noC6_0 ?inC6 ?tfC6i ?lfC6 ?cdC6 ?lcC6 ?ldC6 ?flC6 ?pfC6 ?suC6 ?svC6 ?siC6 ?aC7 ?lC7 ?exC7 ?hdC7 ?kpC7 ?gaC7 ?ggC7 ?acC7 ?moC7 ?tyC7 ?saC7 ?noC7_0 ?inC7 ?tfC7i ?lfC7 ?cdC7 ?lcC7 ?ldC7 ?flC7 ?pfC7 ?suC7 ?svC7 ?siC7 ?aC8 ?lC8 ?exC8 ?hdC8 ?kpC8 ?gaC8 ?ggC8 ?acC8 ?moC8 ?tyC8 ?saC8 ?noC8_0 ?inC8 ?tfC8i ?lfC8 ?cdC8 ?lcC8 ?ldC8 ?flC8 ?pfC8 ?suC8 ?svC8 ?siC8 ?aC9 ?lC9 ?exC9 ?hdC9 ?kpC9 ?gaC9 ?ggC9 ?acC9 ?moC9 ?tyC9 ?saC9 ?noC9_0 ?inC9 ?tfC9i ?lfC9 ?cdC9 ?lcC9 ?ldC9 ?flC9 ?pfC9 ?suC9 ?svC9 ?siC9 ?aC10 ?lC10 ?exC10 ?hdC10 ?kpC10 ?gaC10 ?ggC10 ?acC10 ?moC10 ?tyC10 ?saC10 ?noC10_0 ?inC10 ?tfC10i ?lfC10 ?cdC10 ?lcC10 ?ldC10 ?flC10 ?pfC10 ?suC10 ?svC10 ?siC10 ?aC11 ?lC11 ?exC11 ?hdC11 ?kpC11 ?gaC11 ?ggC11 ?acC11 ?moC11 ?tyC11 ?saC11 ?noC11_0 ?inC11 ?tfC11i ?lfC11 ?cdC11 ?lcC11 ?ldC11 ?flC11 ?pfC11 ?suC11 ?svC11 ?siC11 ?aC12 ?lC12 ?exC12 ?hdC12 ?kpC12 ?gaC12 ?ggC12 ?acC12 ?moC12 ?tyC12 ?saC12 ?noC12_0 ?inC12 ?tfC12i ?lfC12 ?cdC12 ?lcC12 ?ldC12 ?flC12 ?pfC12 ?suC12 ?svC12 ?siC12 ?aC13 ?lC13 ?exC13 ?hdC13 ?kpC13 ?gaC13 ?ggC13 ?acC13 ?moC13 ?tyC13 ?saC13 ?noC13_0 ?inC13 ?tfC13i ?lfC13 ?cdC13 ?lcC13 ?ldC13 ?flC13 ?pfC13 ?suC13 ?svC13 ?siC13 ?aC14 ?lC14 ?exC14 ?hdC14 ?kpC14 ?gaC14 ?ggC14 ?acC14 ?moC14 ?tyC14 ?saC14 ?noC14_0 ?noC14_1 ?noC14_2 ?inC14 ?tfC14i ?lfC14 ?cdC14 ?lcC14 ?ldC14 ?flC14 ?pfC14 ?suC14 ?svC14 ?siC14
    (case a0 => k_is)
    (case l0 => k_is)
    (case c0 => k_is)
    (case k0 => k_is)
    (case a1 => k_is)
    (case l1 => k_is)
    (case c1 => k_is)
    (case k1 => k_is)
    (case a2 => k_is)
    (case l2 => k_is)
    (case c2 => k_is)
    (case k2 => k_is)
    (case a3 => k_is)
    (case l3 => k_is)
    (case c3 => k_is)
    (case k3 => k_is)
    (case a4 => k_is)
    (case l4 => k_is)
    (case c4 => k_is)
    (case k4 => k_is)
    (case a5 => k_is)
    (case l5 => k_is)
    (case c5 => k_is)
    (case k5 => k_is)
    (case a6 => k_is)
    (case l6 => k_is)
    (case c6 => k_is)
    (case k6 => k_is)
    (case a7 => k_is)
    (case l7 => k_is)
    (case c7 => k_is)
    (case k7 => k_is)
    (case zlen => k_is)
    (case zabs => k_is)
    (case zint => k_is)
    (case zstr => k_is)
    (case zmin => k_is)
    (case zmax => k_is)
    (case zall => k_is)
    (case zrange => k_is)
    (case zsorted => k_is)
    (case zlist => k_is)
    (case ztuple => k_is)
    (case zdict => k_is)
    (case zisinstance => k_is)
    (case zsum => k_is)
    (case zValueError => k_is)
    (case aCO => k_is)
    (case lCO => k_is)
    (case exCO => k_is)
    (case hdCO => k_is)
    (case kpCO => k_is)
    (case gaCO => k_is)
    (case ggCO => k_is)
    (case acCO => k_is)
    (case xn => k_is)
    (case xt => k_is)
    (case moCO => k_is)
    (case exO => k_exc)
    (case aC0 => k_is)
    (case lC0 => k_is)
    (case exC0 => k_is)
    (case hdC0 => k_is)
    (case kpC0 => k_is)
    (case gaC0 => k_is)
    (case ggC0 => k_is)
    (case acC0 => k_is)
    (case moC0 => k_is)
    (case tyC0 => k_is)
    (case saC0 => k_is)
    (case noC0_0 => k_is)
    (case inC0 => k_is)
    (case tfC0i => k_is)
    (case lfC0 => k_is)
    (case cdC0 => k_is)
    (case lcC0 => k_is)
    (case ldC0 => k_is)
    (case flC0 => rfl)
    (case pfC0 => rfl)
    (case zsuper => k_is)
    (case zthird => k_is)
    (case suC0 => k_is)
    (case svC0 => k_is)
    (case siC0 => ks_is)
    (case tops => rfl)
    (case aC1 => k_is)
    (case lC1 => k_is)
    (case exC1 => k_is)
    (case hdC1 => k_is)
    (case kpC1 => k_is)
    (case gaC1 => k_is)
    (case ggC1 => k_is)
    (case acC1 => k_is)
    (case moC1 => k_is)
    (case tyC1 => k_is)
    (case saC1 => k_is)
    (case noC1_0 => k_is)
    (case inC1 => k_is)
    (case tfC1i => k_is)
    (case lfC1 => k_is)
    (case cdC1 => k_is)
    (case lcC1 => k_is)
    (case ldC1 => k_is)
    (case flC1 => rfl)
    (case pfC1 => rfl)
    (case suC1 => k_is)
    (case svC1 => k_is)
    (case siC1 => ks_is)
    (case aC2 => k_is)
    (case lC2 => k_is)
    (case exC2 => k_is)
    (case hdC2 => k_is)
    (case kpC2 => k_is)
    (case gaC2 => k_is)
    (case ggC2 => k_is)
    (case acC2 => k_is)
    (case moC2 => k_is)
    (case tyC2 => k_is)
    (case saC2 => k_is)
    (case noC2_0 => k_is)
    (case inC2 => k_is)
    (case tfC2i => k_is)
    (case lfC2 => k_is)
    (case cdC2 => k_is)
    (case lcC2 => k_is)
    (case ldC2 => k_is)
    (case flC2 => rfl)
    (case pfC2 => rfl)
    (case suC2 => k_is)
    (case svC2 => k_is)
    (case siC2 => ks_is)
    (case aC3 => k_is)
    (case lC3 => k_is)
    (case exC3 => k_is)
    (case hdC3 => k_is)
    (case kpC3 => k_is)
    (case gaC3 => k_is)
    (case ggC3 => k_is)
    (case acC3 => k_is)
    (case moC3 => k_is)
    (case tyC3 => k_is)
    (case saC3 => k_is)
    (case noC3_0 => k_is)
    (case inC3 => k_is)
    (case tfC3i => k_is)
    (case lfC3 => k_is)
    (case cdC3 => k_is)
    (case lcC3 => k_is)
    (case ldC3 => k_is)
    (case flC3 => rfl)
    (case pfC3 => rfl)
    (case suC3 => k_is)
    (case svC3 => k_is)
    (case siC3 => ks_is)
    (case aC4 => k_is)
    (case lC4 => k_is)
    (case exC4 => k_is)
    (case hdC4 => k_is)
    (case kpC4 => k_is)
    (case gaC4 => k_is)
    (case ggC4 => k_is)
    (case acC4 => k_is)
    (case moC4 => k_is)
    (case tyC4 => k_is)
    (case saC4 => k_is)
    (case noC4_0 => k_is)
    (case inC4 => k_is)
    (case tfC4i => k_is)
    (case lfC4 => k_is)
    (case cdC4 => k_is)
    (case lcC4 => k_is)
    (case ldC4 => k_is)
    (case flC4 => rfl)
    (case pfC4 => rfl)
    (case suC4 => k_is)
    (case svC4 => k_is)
    (case siC4 => ks_is)
    (case aC5 => k_is)
    (case lC5 => k_is)
    (case exC5 => k_is)
    (case hdC5 => k_is)
    (case kpC5 => k_is)
    (case gaC5 => k_is)
    (case ggC5 => k_is)
    (case acC5 => k_is)
    (case moC5 => k_is)
    (case tyC5 => k_is)
    (case saC5 => k_is)
    (case noC5_0 => k_is)
    (case inC5 => k_is)
    (case tfC5i => k_is)
    (case lfC5 => k_is)
    (case cdC5 => k_is)
    (case lcC5 => k_is)
    (case ldC5 => k_is)
    (case flC5 => rfl)
    (case pfC5 => rfl)
    (case suC5 => k_is)
    (case svC5 => k_is)
    (case siC5 => ks_is)
    (case aC6 => k_is)
    (case lC6 => k_is)
    (case exC6 => k_is)
    (case hdC6 => k_is)
    (case kpC6 => k_is)
    (case gaC6 => k_is)
    (case ggC6 => k_is)
    (case acC6 => k_is)
    (case moC6 => k_is)
    (case tyC6 => k_is)
    (case saC6 => k_is)
    (case noC6_0 => k_is)
    (case inC6 => k_is)
    (case tfC6i => k_is)
    (case lfC6 => k_is)
    (case cdC6 => k_is)
    (case lcC6 => k_is)
    (case ldC6 => k_is)
    (case flC6 => rfl)
    (case pfC6 => rfl)
    (case suC6 => k_is)
    (case svC6 => k_is)
    (case siC6 => ks_is)
    (case aC7 => k_is)
    (case lC7 => k_is)
    (case exC7 => k_is)
    (case hdC7 => k_is)
    (case kpC7 => k_is)
    (case gaC7 => k_is)
    (case ggC7 => k_is)
    (case acC7 => k_is)
    (case moC7 => k_is)
    (case tyC7 => k_is)
    (case saC7 => k_is)
    (case noC7_0 => k_is)
    (case inC7 => k_is)
    (case tfC7i => k_is)
    (case lfC7 => k_is)
    (case cdC7 => k_is)
    (case lcC7 => k_is)
    (case ldC7 => k_is)
    (case flC7 => rfl)
    (case pfC7 => rfl)
    (case suC7 => k_is)
    (case svC7 => k_is)
    (case siC7 => ks_is)
    (case aC8 => k_is)
    (case lC8 => k_is)
    (case exC8 => k_is)
    (case hdC8 => k_is)
    (case kpC8 => k_is)
    (case gaC8 => k_is)
    (case ggC8 => k_is)
    (case acC8 => k_is)
    (case moC8 => k_is)
    (case tyC8 => k_is)
    (case saC8 => k_is)
    (case noC8_0 => k_is)
    (case inC8 => k_is)
    (case tfC8i => k_is)
    (case lfC8 => k_is)
    (case cdC8 => k_is)
    (case lcC8 => k_is)
    (case ldC8 => k_is)
    (case flC8 => rfl)
    (case pfC8 => rfl)
    (case suC8 => k_is)
    (case svC8 => k_is)
    (case siC8 => ks_is)
    (case aC9 => k_is)
    (case lC9 => k_is)
    (case exC9 => k_is)
    (case hdC9 => k_is)
    (case kpC9 => k_is)
    (case gaC9 => k_is)
    (case ggC9 => k_is)
    (case acC9 => k_is)
    (case moC9 => k_is)
    (case tyC9 => k_is)
    (case saC9 => k_is)
    (case noC9_0 => k_is)
    (case inC9 => k_is)
    (case tfC9i => k_is)
    (case lfC9 => k_is)
    (case cdC9 => k_is)
    (case lcC9 => k_is)
    (case ldC9 => k_is)
    (case flC9 => rfl)
    (case pfC9 => rfl)
    (case suC9 => k_is)
    (case svC9 => k_is)
    (case siC9 => ks_is)
    (case aC10 => k_is)
    (case lC10 => k_is)
    (case exC10 => k_is)
    (case hdC10 => k_is)
    (case kpC10 => k_is)
    (case gaC10 => k_is)
    (case ggC10 => k_is)
    (case acC10 => k_is)
    (case moC10 => k_is)
    (case tyC10 => k_is)
    (case saC10 => k_is)
    (case noC10_0 => k_is)
    (case inC10 => k_is)
    (case tfC10i => k_is)
    (case lfC10 => k_is)
    (case cdC10 => k_is)
    (case lcC10 => k_is)
    (case ldC10 => k_is)
    (case flC10 => rfl)
    (case pfC10 => rfl)
    (case suC10 => k_is)
    (case svC10 => k_is)
    (case siC10 => ks_is)
    (case aC11 => k_is)
    (case lC11 => k_is)
    (case exC11 => k_is)
    (case hdC11 => k_is)
    (case kpC11 => k_is)
    (case gaC11 => k_is)
    (case ggC11 => k_is)
    (case acC11 => k_is)
    (case moC11 => k_is)
    (case tyC11 => k_is)
    (case saC11 => k_is)
    (case noC11_0 => k_is)
    (case inC11 => k_is)
    (case tfC11i => k_is)
    (case lfC11 => k_is)
    (case cdC11 => k_is)
    (case lcC11 => k_is)
    (case ldC11 => k_is)
    (case flC11 => rfl)
    (case pfC11 => rfl)
    (case suC11 => k_is)
    (case svC11 => k_is)
    (case siC11 => ks_is)
    (case aC12 => k_is)
    (case lC12 => k_is)
    (case exC12 => k_is)
    (case hdC12 => k_is)
    (case kpC12 => k_is)
    (case gaC12 => k_is)
    (case ggC12 => k_is)
    (case acC12 => k_is)
    (case moC12 => k_is)
    (case tyC12 => k_is)
    (case saC12 => k_is)
    (case noC12_0 => k_is)
    (case inC12 => k_is)
    (case tfC12i => k_is)
    (case lfC12 => k_is)
    (case cdC12 => k_is)
    (case lcC12 => k_is)
    (case ldC12 => k_is)
    (case flC12 => rfl)
    (case pfC12 => rfl)
    (case suC12 => k_is)
    (case svC12 => k_is)
    (case siC12 => ks_is)
    (case aC13 => k_is)
    (case lC13 => k_is)
    (case exC13 => k_is)
    (case hdC13 => k_is)
    (case kpC13 => k_is)
    (case gaC13 => k_is)
    (case ggC13 => k_is)
    (case acC13 => k_is)
    (case moC13 => k_is)
    (case tyC13 => k_is)
    (case saC13 => k_is)
    (case noC13_0 => k_is)
    (case inC13 => k_is)
    (case tfC13i => k_is)
    (case lfC13 => k_is)
    (case cdC13 => k_is)
    (case lcC13 => k_is)
    (case ldC13 => k_is)
    (case flC13 => rfl)
    (case pfC13 => rfl)
    (case suC13 => k_is)
    (case svC13 => k_is)
    (case siC13 => ks_is)
    (case aC14 => k_is)
    (case lC14 => k_is)
    (case exC14 => k_is)
    (case hdC14 => k_is)
    (case kpC14 => k_is)
    (case gaC14 => k_is)
    (case ggC14 => k_is)
    (case acC14 => k_is)
    (case moC14 => k_is)
    (case tyC14 => k_is)
    (case saC14 => k_is)
    (case noC14_0 => k_is)
    (case noC14_1 => k_is)
    (case noC14_2 => k_is)
    (case inC14 => k_is)
    (case tfC14i => k_is)
    (case lfC14 => k_is)
    (case cdC14 => k_is)
    (case lcC14 => k_is)
    (case ldC14 => k_is)
    (case flC14 => rfl)
    (case pfC14 => rfl)
    (case suC14 => k_is)
    (case svC14 => k_is)
    (case siC14 => ks_is)
