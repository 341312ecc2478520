import PyProof.Rows.All
import Wide.All
import OpenK.AllK
import Wide.FinOn
import HandS.Base
import HandS.Call
import HandS.ForMost
import HandS.Star
import HandS.Defaults
import KE.KOpsOwn
import HandS.OwnEq
import HandS.Wide
import HandS.FStr
import HandS.DictComp
import HandS.ClsMeth
import HandS.IsInst
import HandS.StrMore
import HandS.Walk
import PySem.Challenge.RW_owedanswers_k09_whole_least_and_greatest
import KE.KCallOwn
import PyProof.InstNe
import HandS.More
import HandS.RaiseMore
import KE.KRevSl
import HandS.Conv
import KE.KExcSuper
import HandS.Exc
import HandS.ExcInit
import HandS.Words
import HandS.WordsExc
import HandS.TryMany
import HandS.ExcField
import HandS.ExcIs
import HandS.ExcOwn
import PyProof.StrLawsRepr
import HandS.CallSlots
import HandS.Codes
import PyProof.Rows.StrMul
set_option Elab.async false
set_option linter.all false
set_option maxRecDepth 100000
namespace KwX
open PySem PySem.Spec PyProof.Rows

section
variable {prog : Program} {w : World} {K : Type} [DecidableEq K] {knd : KeyKind prog w K} {A : Around} {E : Value → Shared → Prop} {s : Shared}

theorem find_none {d : Addr} {kvs : List (K × Value)} {k : K} {key : Value} {Q : Option Nat → Shared → Prop} (hkey : knd.is k key = true) (hm : s.heap.DictOf knd d kvs) (hn : k ∉ kvs.map (·.1)) (h : Q none s) :
    wpAny (model prog w) A (dictFind d key (knd.hash k)) Q E s := by
  obtain ⟨o, es, ep, ho, hc, hd, hk, hp, _⟩ := hm
  refine wpAny_dictFind_of hkey ho hd hk ?_
  have hidx : (es.findIdx? fun e => knd.is k e.key) = kvs.findIdx? fun kv => decide (kv.1 = k) := by
    rw [← hp.findIdx k]; obtain ⟨l⟩ := es; simp
  have hno : (kvs.findIdx? fun kv => decide (kv.1 = k)) = none := by
    rw [List.findIdx?_eq_none_iff]
    intro x hx
    refine decide_eq_false fun e => hn ?_
    exact List.mem_map.mpr ⟨x, hx, e⟩
  rw [hidx, hno]
  exact h
theorem put_new {d : Addr} {kvs : List (K × Value)} {k : K} {key v : Value} {Q : Unit → Shared → Prop} (hkey : knd.is k key = true) (hm : s.heap.DictOf knd d kvs) (hn : k ∉ kvs.map (·.1)) (hsz : kvs.length ≤ sizeLine)
    (h : ∀ h', h'.DictOf knd d (kvs ++ [(k, v)]) → Heap.SameBut d s.heap h' → Q () { s with heap := h' }) :
    wpAny (model prog w) A (dictPut d (knd.hash k) key v) Q E s := by
  unfold dictPut
  refine wpAny_bind (find_none hkey hm hn ?_)
  obtain ⟨o, es, ep, ho, hc, hd, hk, hp, hnd⟩ := hm
  have hes : es.size ≤ sizeLine := by have e1 := hp.length; have e2 : es.toList.length = es.size := by simp
                                      omega
  refine wpAny_updateDictKeys (hz := hes) ho hd (h _ ⟨_, _, ep + 1, Heap.get?_update_self _ ho (Obj.isFreed_of_dict (Obj.data_mapDictKeys hd _)),
      hc.mapDictKeys _, Obj.data_mapDictKeys hd _, hk.push hkey _, ?_, ?_⟩ (Heap.SameBut.update ..))
  · have := hp.append hkey (knd.hash k) v
    obtain ⟨l⟩ := es
    simpa using this
  · rw [List.map_append, List.nodup_append]
    refine ⟨hnd, by simp, ?_⟩
    intro a ha b hb
    simp only [List.map_cons, List.map_nil, List.mem_singleton] at hb
    subst hb
    exact fun e => hn (e ▸ ha)
theorem wpAny_merge_new {d o : Addr} {more : List (K × Value)} {Q : Unit → Shared → Prop} (hdo : d ≠ o) (hoS : (o == sysModules) = false)
    (hd : s.heap.DictOf knd d []) (ho : s.heap.DictOf knd o more) (hfl : ∀ k v, knd.is k v = true → ∀ a, v ≠ .ref a) (hsz : more.length ≤ sizeLine)
    (hQ : ∀ h', h'.DictOf knd d more → h'.DictOf knd o more → Heap.SameBut d s.heap h' → Q () { s with heap := h' }) :
    wpAny (model prog w) A (mergeMapping d (.ref o) true) Q E s := by
  obtain ⟨od, esd, epd, hod, hcd, hdd, hkd, hpd, hnd⟩ := id hd
  obtain ⟨oo, eso, epo, hoo, hco, hdo', hko, hpo, hno⟩ := id ho
  have hlen : more.length = eso.size := by rw [← hpo.length]; simp
  have hT : s.TypeIs (.ref o) "dict" := ho.typeIs
  have hlk := F.slot_dict_iter.lookup
  have hsub := isSubtype_dict_dict
  have hdt : s.TypeIs (.ref d) "dict" := hd.typeIs
  obtain ⟨hp0, g, dr, tk, os⟩ := s
  unfold mergeMapping
  repeat (first | with_reducible refine wpAny_dictEntries hod hdd ?_ | with_reducible refine wpAny_dictEntries hoo hdo' ?_ | with_reducible refine wpAny_dictEpoch hoo hdo' ?_ | wp_step)
  have he0 : esd = #[] := by
    have e1 := hpd.length
    simp only [Array.length_toList, List.length_nil] at e1
    exact Array.eq_empty_of_size_eq_zero e1
  rw [if_pos (by rw [he0]; rfl)]
  have key : ∀ (i : Nat) (hi : i < eso.size), ∃ kv, more[i]? = some kv ∧ knd.is kv.1 eso[i].key = true ∧ eso[i].hash = knd.hash kv.1 ∧ eso[i].val = kv.2 := fun i hi => by
    obtain ⟨⟨k, v⟩, hkv⟩ : ∃ kv, more[i]? = some kv := ⟨more[i]'(by rw [hlen]; exact hi), List.getElem?_eq_getElem _⟩
    obtain ⟨hkey, hval⟩ := hpo.get? (e := eso[i]) (by simp [hi]) hkv
    obtain ⟨k', hkey', hhash⟩ := hko eso[i] (Array.getElem_mem hi)
    obtain rfl : k' = k := knd.inj _ _ _ hkey' hkey
    exact ⟨_, hkv, hkey, hhash, hval⟩
  refine wpAny_bind (wpAny_dictEntries hoo hdo' ?_)
  refine wpAny_bind ?_
  refine MeetsSeq2.wpAny_forIn_array _ (fun rest _ s' => s' = ⟨hp0, g, dr, tk, os⟩ ∧ ∀ e ∈ rest, e ∈ eso) _ ?_ ?_ _ _ ⟨rfl, fun e he => Array.mem_toList_iff.mp he⟩
  · rintro e rest b s' ⟨rfl, hr⟩
    obtain ⟨i, hi, rfl⟩ := Array.mem_iff_getElem.mp (hr e List.mem_cons_self)
    obtain ⟨kv, _, hk1, _, _⟩ := key i hi
    have hnr := hfl _ _ hk1
    split
    · rename_i a ha
      exact absurd ha (hnr a)
    · exact wpAny_pure ⟨rfl, fun e he => hr e (List.mem_cons_of_mem _ he)⟩
  · rintro b s' ⟨rfl, _⟩
    refine wpAny_bind (wpAny_dictEntries hoo hdo' ?_)
    refine wpAny_bind (wpAny_dictEpoch hoo hdo' ?_)
    refine wpAny_bind ?_
    rw [List.range_eq_range']
    refine wpAny_forIn_list _
      (fun rest _ s' => ∃ h' i, s' = (⟨h', g, dr, tk, os⟩ : Shared) ∧ rest = List.range' i (eso.size - i) ∧ i ≤ eso.size ∧ h'.DictOf knd d (more.take i) ∧ h'.get? o = some oo ∧ Heap.SameBut d hp0 h')
      _ ?_ ?_ _ _ ⟨hp0, 0, rfl, by simp, Nat.zero_le _, by simpa using hd, hoo, Heap.SameBut.refl _ _⟩
    · rintro x rest b s' ⟨h', i, rfl, hr, hi, hd', hoo', hs'⟩
      have hlt : i < eso.size := by
        rcases Nat.lt_or_ge i eso.size with h | h
        · exact h
        · rw [Nat.sub_eq_zero_of_le h] at hr; simp at hr
      obtain ⟨rfl, hrest⟩ : x = i ∧ rest = List.range' (i + 1) (eso.size - (i + 1)) := by
        have e : eso.size - i = (eso.size - (i + 1)) + 1 := by omega
        rw [e, List.range'_succ] at hr
        injection hr with h1 h2
        exact ⟨h1, h2⟩
      refine wpAny_bind (wpAny_dictEntries hoo' hdo' ?_)
      rw [Array.getElem?_eq_getElem hlt]
      obtain ⟨⟨k, v⟩, hkv, hkey, hhash, hval⟩ := key x hlt
      have hmx : (more.take x).length ≤ sizeLine := by rw [List.length_take]; omega
      have hnew : k ∉ (more.take x).map (·.1) := fun hm => by
        rw [List.map_take] at hm
        obtain ⟨j, hj, ej⟩ := List.getElem_of_mem hm
        have hj' : j < x := by rw [List.length_take] at hj; omega
        have hx2 : (more.map (·.1))[x]? = some k := by rw [List.getElem?_map, hkv]; rfl
        have hj2 : (more.map (·.1))[j]? = some k := by
          rw [List.getElem_take] at ej
          rw [← ej]
          exact List.getElem?_eq_getElem _
        have := (List.getElem?_inj (i := j) (by rw [List.length_map]; omega) hno).mp (hj2.trans hx2.symm)
        omega
      show wpAny _ _ (holding [eso[x].key, eso[x].val] _ >>= _) _ _ _
      refine wpAny_bind (wpAny_holding ?_)
      rw [hhash, hval]
      refine wpAny_bind (find_none hkey hd' hnew ?_)
      show wpAny _ _ (dictPut d (knd.hash k) eso[x].key v) _ _ _
      refine put_new hkey hd' hnew hmx fun h'' hd'' hs'' => ?_
      have hoo'' : h''.get? o = some oo := (hs''.2 o (Ne.symm hdo)).trans hoo'
      refine wpAny_bind (wpAny_dictEpoch hoo'' hdo' ?_)
      rw [if_neg (by simp)]
      refine wpAny_pure ⟨h'', x + 1, rfl, hrest, hlt, ?_, hoo'', hs'.trans hs''⟩
      rw [List.take_add_one, hkv]
      exact hd''
    · rintro b s' ⟨h', i, rfl, hr, hi, hd', hoo', hs'⟩
      have hin : i = eso.size := by
        rcases Nat.lt_or_ge i eso.size with h | h
        · have e : eso.size - i = (eso.size - (i + 1)) + 1 := by omega
          rw [e, List.range'_succ] at hr; exact nomatch hr
        · exact Nat.le_antisymm hi h
      rw [hin, ← hlen, List.take_length] at hd'
      exact wpAny_pure (hQ h' hd' ⟨oo, eso, epo, hoo', hco, hdo', hko, hpo, hno⟩ hs')
end
end KwX

set_option Elab.async false
set_option linter.all false
set_option maxRecDepth 100000
namespace KwX
open PySem PySem.Spec PyProof.Rows

section
variable {prog : Program} {w : World} {A : Around} {E : Value → Shared → Prop} {s : Shared}
theorem nsSet_new {d : Addr} {kvs : List (L2.Key × Value)} {x : Str} {v : Value} {Q : Unit → Shared → Prop} (hm : s.heap.DictOf (L2.mixKind prog w) d kvs) (hn : (Sum.inr x : L2.Key) ∉ kvs.map (·.1))
    (h : ∀ h', h'.DictOf (L2.mixKind prog w) d (kvs ++ [(Sum.inr x, v)]) → Heap.SameBut d s.heap h' → Q () { s with heap := h', toks := s.toks + 1 }) :
    wpAny (model prog w) A (nsSet d x v) Q E s := fun Γ p _ => by
  obtain ⟨o, es, ep, ho, hc, hd, hk, hp, hnd⟩ := hm
  simp only [nsSet, strHash, Sem.wp_bind', Sem.wp_cmd_ask, Sem.wp_pure', Sem.wp_cmd_mkText]
  rw [Sem.wp_loadPart_of _ Γ _ p { s with toks := s.toks + 1 } (o := o) _ ho]
  have hany : es.any (·.refKey) = false := by
    rw [Array.any_eq_false']
    intro e he
    obtain ⟨k, h1, _⟩ := hk e he
    rcases L2.keyIs_shape (show L2.keyIs k e.key = true from h1) with ⟨i, t, _, e1⟩ | ⟨y, t, _, e1⟩ <;> simp [DictEntry.refKey, e1]
  simp only [hd, aRefKeyMayBeTheName_eq, aRefKeyMayBeTheNameByArray, hany, Bool.and_false, Bool.false_eq_true, if_false, Sem.wp_cmd_updatePart]
  refine ⟨by rw [ho]; rfl, h _ ?_ (Heap.SameBut.update ..)⟩
  obtain ⟨c, d', dt, sl⟩ := o
  simp only at hd
  subst hd
  have hfun : (fun e : DictEntry => e.key.isStr x) = fun e => (L2.mixKind prog w).is (Sum.inr x) e.key := funext fun e => ((L2.mixKind prog w).strs (Sum.inr x) x 0 e.key (L2.keyIs_str x 0)).symm
  have hi : es.findIdx? (·.key.isStr x) = none := by
    rw [hfun]
    have hidx : (es.findIdx? fun e => (L2.mixKind prog w).is (Sum.inr x) e.key) = kvs.findIdx? fun kv => decide (kv.1 = Sum.inr x) := by
      rw [← hp.findIdx (Sum.inr x)]; obtain ⟨l⟩ := es; simp
    rw [hidx, List.findIdx?_eq_none_iff]
    intro z hz
    exact decide_eq_false fun e => hn (List.mem_map.mpr ⟨z, hz, e⟩)
  refine ⟨_, es.push ⟨hashStr w x, .str x s.toks, v⟩, ep + 1, Heap.get?_update_self _ ho (by simp only [Obj.putName_eq, Obj.putNameByArray, hi]; rfl), by simp only [Obj.putName_eq, Obj.putNameByArray, hi]; exact hc, by simp only [Obj.putName_eq, Obj.putNameByArray, hi]; rfl, (show PySem.KeysOf (L2.mixKind prog w) (es.push ⟨(L2.mixKind prog w).hash (Sum.inr x), .str x s.toks, v⟩) from hk.push (L2.mixKind_str prog w x s.toks) v), ?_, ?_⟩
  · have := hp.append (L2.mixKind_str prog w x s.toks) (hashStr w x) v
    obtain ⟨l⟩ := es
    simpa using this
  · rw [List.map_append, List.nodup_append]
    refine ⟨hnd, by simp, ?_⟩
    intro a ha b hb
    simp only [List.map_cons, List.map_nil, List.mem_singleton] at hb
    subst hb
    exact fun e => hn (e ▸ ha)

/-- the keywords of a dict of texts -/
def kwOf (vs : List (L2.Key × Value)) : List (Str × Value) := vs.filterMap fun p => match p.1 with
  | .inr x => some (x, p.2)
  | .inl _ => none
theorem keywordsIn_ok {f : Value} {d : Addr} {vs : List (L2.Key × Value)} {Q : List (Str × Value) → Shared → Prop} (hm : s.heap.DictOf (L2.mixKind prog w) d vs) (hs : ∀ p ∈ vs, ∃ x, p.1 = Sum.inr x) (h : Q (kwOf vs) s) :
    wpAny (model prog w) A (keywordsIn f d) Q E s := by
  obtain ⟨o, es, ep, ho, hc, hd, hk, hp, hnd⟩ := hm
  unfold keywordsIn
  refine wpAny_bind (wpAny_dictEntries ho hd ?_)
  refine wpAny_bind ?_
  refine MeetsSeq2.wpAny_forIn_array _ (fun rest kw s' => s' = s ∧ ∃ (vs2 : List (L2.Key × Value)), Pairs (L2.mixKind prog w) rest vs2 ∧ (∀ p ∈ vs2, ∃ x, p.1 = Sum.inr x) ∧ kwOf vs = kw ++ kwOf vs2) _ ?_ ?_ _ _ ⟨rfl, vs, hp, hs, rfl⟩
  · rintro e rest kw s' ⟨rfl, vs2, hp2, hs2, e2⟩
    cases hp2 with
    | @cons _ kv _ kvs h1 h2 h3 =>
      obtain ⟨x, ex⟩ := hs2 kv List.mem_cons_self
      obtain ⟨k, v⟩ := kv
      simp only at ex h2
      subst ex
      obtain ⟨t, et⟩ : ∃ t, e.key = .str x t := by
        rcases L2.keyIs_shape (show L2.keyIs (Sum.inr x) e.key = true from h1) with ⟨i, t, z, _⟩ | ⟨y, t, z, e1⟩
        · cases z
        · cases z; exact ⟨t, e1⟩
      rw [et]
      refine wpAny_pure ⟨rfl, kvs, h3, fun p hp => hs2 p (List.mem_cons_of_mem _ hp), ?_⟩
      rw [e2, h2]
      show kw ++ ((x, v) :: kwOf kvs) = (kw ++ [(x, v)]) ++ kwOf kvs
      rw [List.append_assoc]
      rfl
  · rintro kw s' ⟨rfl, vs2, hp2, hs2, e2⟩
    cases hp2
    have e3 : kwOf vs = kw := by rw [e2]; show kw ++ [] = kw; rw [List.append_nil]
    rw [← e3]
    exact wpAny_pure h
end
end KwX

set_option Elab.async false
set_option linter.all false
set_option maxRecDepth 100000
namespace KwX
open PySem PySem.Spec PyProof.Rows

section
variable {prog : Program} {w : World} {A : Around} {E : Value → Shared → Prop} {s : Shared}
abbrev dict0 : Obj := { cls := .type "dict", data := .dict #[] }
theorem mixFlat : ∀ (k : L2.Key) (v : Value), (L2.mixKind prog w).is k v = true → ∀ a, v ≠ .ref a := fun k v h a e => by
  subst e
  rcases L2.keyIs_shape (show L2.keyIs k (.ref a) = true from h) with ⟨i, t, _, e1⟩ | ⟨y, t, _, e1⟩ <;> cases e1
theorem merged_one {f : Value} {x : Sem Value} {Q : Addr → Shared → Prop}
    (h : wpAny (model prog w) A x (fun v s2 => ∃ (o : Addr) (more : List (L2.Key × Value)), v = .ref o ∧ s.heap.objs.size ≠ o ∧ (o == sysModules) = false ∧ s2.heap.DictOf (L2.mixKind prog w) s.heap.objs.size [] ∧ s2.heap.DictOf (L2.mixKind prog w) o more ∧ more.length ≤ sizeLine ∧
      ∀ h', h'.DictOf (L2.mixKind prog w) s.heap.objs.size more → h'.DictOf (L2.mixKind prog w) o more → Heap.SameBut s.heap.objs.size s2.heap h' → Q s.heap.objs.size { s2 with heap := h' }) E { s with heap := s.heap.push dict0 }) :
    wpAny (model prog w) A (mergedKeywords f [(none, x)]) Q E s := by
  unfold mergedKeywords
  refine wpAny_bind (wpAny_alloc ?_)
  refine wpAny_bind (wpAny_holding ?_)
  refine wpAny_bind ?_
  refine wpAny_forIn_list _ (fun rest g s' => g = [] ∧ ((rest = [(none, x)] ∧ s' = { s with heap := s.heap.push dict0 }) ∨ (rest = [] ∧ Q s.heap.objs.size s'))) _ ?_ ?_ _ _ ⟨rfl, .inl ⟨rfl, rfl⟩⟩
  · rintro ⟨nm, y⟩ rest g s' ⟨rfl, ⟨e1, rfl⟩ | ⟨e1, _⟩⟩
    · injection e1 with e1 e2
      injection e1 with e3 e4
      subst e2 e3 e4
      refine wpAny_bind (wpAny_pure ?_)
      refine wpAny_bind (wpAny_mono h (fun v s2 hv => ?_) fun _ _ z => z)
      obtain ⟨o, more, rfl, hne, hsm, h0, ho, hz, hq⟩ := hv
      refine wpAny_bind (wpAny_onRaise ?_)
      refine wpAny_holding (wpAny_tryCatch (wpAny_onRaise ?_))
      exact wpAny_merge_new hne hsm h0 ho mixFlat hz fun h' a b c => wpAny_pure ⟨rfl, .inr ⟨rfl, hq h' a b c⟩⟩
    · cases e1
  · rintro g s' ⟨rfl, ⟨e1, _⟩ | ⟨_, q⟩⟩
    · cases e1
    · exact wpAny_pure (wpAny_pure q)
theorem evalArgs_one {f : Value} {y : Sem Value} {rest : List (Bool × Sem Value)} {x : Sem Value} {Q : Args → Shared → Prop}
    (h : wpAny (model prog w) A (spliced ((false, y) :: rest)) (fun us s => wpAny (model prog w) A x (fun v s2 => ∃ (o : Addr) (more : List (L2.Key × Value)), v = .ref o ∧ s.heap.objs.size ≠ o ∧ (o == sysModules) = false ∧ s2.heap.DictOf (L2.mixKind prog w) s.heap.objs.size [] ∧ s2.heap.DictOf (L2.mixKind prog w) o more ∧ more.length ≤ sizeLine ∧ (∀ p ∈ more, ∃ x, p.1 = Sum.inr x) ∧
      ∀ h', h'.DictOf (L2.mixKind prog w) s.heap.objs.size more → h'.DictOf (L2.mixKind prog w) o more → Heap.SameBut s.heap.objs.size s2.heap h' → Q ⟨us, kwOf more⟩ { s2 with heap := h' }) E { s with heap := s.heap.push dict0 }) E s) :
    wpAny (model prog w) A (evalArgs f true ((false, y) :: rest) [(none, x)]) Q E s := by
  unfold evalArgs
  show wpAny _ _ (spliced ((false, y) :: rest) >>= _) Q E s
  refine wpAny_bind (wpAny_mono h (fun us s1 h1 => ?_) fun _ _ z => z)
  refine wpAny_bind (wpAny_pure ?_)
  refine wpAny_holding ?_
  show wpAny _ _ (mergedKeywords f [(none, x)] >>= _) Q E s1
  refine wpAny_bind (merged_one (wpAny_mono h1 (fun v s2 hv => ?_) fun _ _ z => z))
  obtain ⟨o, more, rfl, hne, hsm, h0, ho, hz, hks, hq⟩ := hv
  refine ⟨o, more, rfl, hne, hsm, h0, ho, hz, fun h' a b c => ?_⟩
  refine wpAny_bind (wpAny_pure ?_)
  exact wpAny_bind (wpAny_holding (keywordsIn_ok a hks (wpAny_pure (hq h' a b c))))
open PySem.W in
theorem callWith_one {K : Frag} {pos : Pos} {f : Value} {first : List Value} {y : Sem Value} {rest : List (Bool × Sem Value)} {x : Sem Value} {Q : Value → Shared → Prop} (hk : keepIn K f = true)
    (h : wpAny (model prog w) A (evalArgs f true ((false, y) :: rest) [(none, x)]) (fun a s₁ => K.In s₁.heap ∧ wpAny (model prog w) A (call f (first ++ a.pos) a.kw) Q E s₁) E s) :
    wpAny (model prog w) A (callWith pos f first ((false, y) :: rest) [(none, x)]) Q E s := by
  unfold callWith
  refine wpAny_bind (wpAny_holding (wpAny_mono h (fun a s₁ h₁ => wpAny_bind (wpAny_standAt ?_)) fun _ _ x => x))
  obtain ⟨hK, h₁⟩ := h₁
  obtain ⟨k, hk', L⟩ := keeps_K (M := model prog w) hk _ hK
  have hs : (((false, y) :: rest).any (·.1) || ([((none : Option Str), x)] : List (Option Str × Sem Value)).any (·.1.isNone)) = true := by simp
  simp only [hs]
  refine wpAny_bind (L.here ?_)
  have tail : ∀ {t : Sem Value}, wpAny (model prog w) A t Q E s₁ → wpAny (model prog w) A (t >>= fun r => holding [r] point >>= fun _ => pure r) Q E s₁ :=
    fun ht => wpAny_bind (wpAny_mono ht (fun r s₂ hr => wpAny_bind (wpAny_holding (wpAny_point (wpAny_pure hr)))) fun _ _ x => x)
  have marked (mk : Value) : wpAny (model prog w) A (callMarked mk f (first ++ a.pos) a.kw) Q E s₁ := by unfold callMarked; exact Calls.wpAny_keep h₁
  rcases hk' with rfl | rfl | rfl <;> dsimp only <;> first | exact tail (marked _) | exact tail (wpAny_operating h₁)
end
end KwX

set_option Elab.async false
set_option linter.all false
set_option maxRecDepth 100000
namespace KwX
open PySem PySem.Spec PyProof.Rows

section
variable {prog : Program} {w : World} {A : Around} {E : Value → Shared → Prop} {s : Shared}
def kwKeys (kw : List (Str × Value)) : List (L2.Key × Value) := kw.map fun p => (Sum.inr p.1, p.2)
theorem kwKeys_nodup {kw : List (Str × Value)} (h : (kw.map (·.1)).Nodup) : ((kwKeys kw).map (·.1)).Nodup := by
  unfold kwKeys
  rw [List.map_map]
  show (kw.map (Sum.inr ∘ fun p => p.1)).Nodup
  rw [← List.map_map]
  refine List.pairwise_map.mpr (List.Pairwise.imp (fun {a b} hab e => hab (Sum.inr.inj e)) h)
theorem nsSets {d : Addr} {Q : PUnit → Shared → Prop} : ∀ (kw : List (Str × Value)) (acc : List (L2.Key × Value)) {s : Shared}, s.heap.DictOf (L2.mixKind prog w) d acc → ((acc ++ kwKeys kw).map (·.1)).Nodup →
    (∀ h' t', h'.DictOf (L2.mixKind prog w) d (acc ++ kwKeys kw) → Heap.SameBut d s.heap h' → Q ⟨⟩ { s with heap := h', toks := t' }) →
    wpAny (model prog w) A (List.foldlM (fun (_ : PUnit) a => nsSet d a.fst a.snd) PUnit.unit kw) Q E s
  | [], acc, s, hm, _, hQ => by
    rw [List.foldlM_nil]
    have e : acc ++ kwKeys [] = acc := List.append_nil _
    exact wpAny_pure (hQ s.heap s.toks (by rw [e]; exact hm) (Heap.SameBut.refl _ _))
  | (k, v) :: kw, acc, s, hm, hn, hQ => by
    rw [List.foldlM_cons]
    have hn1 : (Sum.inr k : L2.Key) ∉ acc.map (·.1) := fun hmem => by
      rw [List.map_append, List.nodup_append] at hn
      exact hn.2.2 _ hmem (Sum.inr k) (by show Sum.inr k ∈ (kwKeys ((k, v) :: kw)).map (·.1); exact List.mem_cons_self) rfl
    have ea : acc ++ kwKeys ((k, v) :: kw) = (acc ++ [(Sum.inr k, v)]) ++ kwKeys kw := by rw [List.append_assoc]; rfl
    refine wpAny_bind (nsSet_new hm hn1 fun h1 hm1 hs1 => ?_)
    rw [ea] at hn hQ
    exact nsSets kw (acc ++ [(Sum.inr k, v)]) (s := { s with heap := h1, toks := s.toks + 1 }) hm1 hn fun h' t' a b => hQ h' t' a (hs1.trans b)
theorem bind_form {fd : FuncData} {a b dv : Value} {p1 p2 p3 : Arg} {kw : List (Str × Value)} {first : List Value} {Q : List (Str × Value) → Shared → Prop}
    (e1 : fd.params.posonlyargs = []) (e2 : fd.params.args = [p1, p2]) (n1 : p1.arg = "self") (n2 : p2.arg = "constant") (e3 : fd.params.kwonlyargs = []) (e4 : fd.params.vararg = none) (e5 : fd.params.kwarg = some p3) (n3 : p3.arg = "coefficients")
    (hd : PySem.W.Looks (model prog w) s.heap (seqItems? fd.defaults) (some #[dv]))
    (hf : first = [a, b] ∨ (first = [a] ∧ b = dv)) (hk : ∀ p ∈ kw, p.1 ≠ "self" ∧ p.1 ≠ "constant") (hnd : (kw.map (·.1)).Nodup) (hl : kw.length ≤ sizeLine)
    (h : ∀ h' t', (∀ c o, s.heap.get? c = some o → h'.get? c = some o) → h'.DictOf (L2.mixKind prog w) s.heap.objs.size (kwKeys kw) → Q [("self", a), ("constant", b), ("coefficients", .ref s.heap.objs.size)] { s with heap := h', toks := t' }) :
    wpAny (model prog w) A (bindArgs fd ⟨first, kw⟩) Q E s := by
  unfold bindArgs
  simp only [e1, e2, e3, e4, e5, List.map_nil, List.map_cons, List.nil_append, n1, n2]
  refine wpAny_bind ?_
  refine wpAny_forIn_list _ (fun rest (st : List (Str × Value) × List (Str × Value)) s' => s' = s ∧ kw = st.2 ++ rest ∧ st.1 = ([Str.ofString "self", Str.ofString "constant"].zip first)) _ ?_ ?_ _ _ ⟨rfl, rfl, rfl⟩
  · rintro ⟨k, v⟩ rest ⟨sl, ex⟩ s' ⟨rfl, ekw, esl⟩
    simp only at ekw esl
    obtain ⟨h1, h2⟩ := hk (k, v) (by rw [ekw]; exact List.mem_append_right _ List.mem_cons_self)
    have hc : ([Str.ofString "self", Str.ofString "constant"].contains k || ([] : List Str).contains k) = false := by
      have g1 : (k == Str.ofString "self") = false := beq_eq_false_iff_ne.mpr h1
      have g2 : (k == Str.ofString "constant") = false := beq_eq_false_iff_ne.mpr h2
      simp only [List.contains_cons, List.contains_nil, g1, g2, Bool.or_false]
    simp only [hc, Bool.false_eq_true, if_false, Option.isSome_some, if_true]
    exact wpAny_pure ⟨rfl, by rw [ekw, List.append_assoc]; rfl, esl⟩
  · rintro ⟨sl, ex⟩ s' ⟨rfl, ekw, esl⟩
    simp only [List.append_nil] at ekw esl
    subst ekw esl
    refine wpAny_bind (hd _ _ _ _ (fun _ _ z => z) ?_)
    have hlen : ¬ (decide (first.length > [Str.ofString "self", Str.ofString "constant"].length) && (none : Option Arg).isNone) = true := by
      rcases hf with rfl | ⟨rfl, _⟩ <;> simp
    have sc : (Str.ofString "constant" == Str.ofString "self") = false := by decide +kernel
    have cs : (Str.ofString "self" == Str.ofString "constant") = false := by decide +kernel
    rw [if_neg hlen]
    have hz : ¬ (kw.length > sizeLine + 1) := by omega
    have fin : wpAny (model prog w) A (do
        let d ← alloc { cls := Value.type "dict", data := Data.dict #[] }
        (fun (_ : PUnit) => [(Str.ofString "self", a), (Str.ofString "constant", b), (p3.arg, Value.ref d)]) <$> List.foldlM (fun (_ : PUnit) a => nsSet d a.fst a.snd) PUnit.unit kw) Q E s' := by
      refine wpAny_bind (wpAny_alloc ?_)
      rw [map_eq_pure_bind]
      refine wpAny_bind (nsSets kw [] (Heap.DictOf.new s'.heap) (by rw [List.nil_append]; exact kwKeys_nodup hnd) fun h' t' hd' hs' => ?_)
      rw [n3]
      rw [List.nil_append] at hd'
      exact wpAny_pure (h h' t' (fun c o e => (hs'.2 c (Nat.ne_of_lt (Heap.lt_size e))).trans (Heap.get?_push_of_some _ e)) hd')
    rcases hf with rfl | ⟨rfl, rfl⟩
    · simp [List.lookup_cons, sc, cs, hz]
      exact fin
    · simp [List.lookup_cons, sc, cs, hz]
      exact fin
end
end KwX

set_option Elab.async false
set_option linter.all false
set_option maxRecDepth 100000
set_option maxHeartbeats 1000000
namespace KwX
open PySem PySem.Spec PyProof.Rows L2

/-- keywords: names with values -/
abbrev KwR (ks : List (Str × V)) (kw : List (Str × Value)) : Prop := Paired (fun (p : Str × V) (q : Str × Value) => p.1 = q.1 ∧ RelV p.2 q.2) ks kw
def keyed (ks : List (Str × V)) : List (Key × V) := ks.map fun p => (Sum.inr p.1, p.2)
theorem kwR_keys : ∀ {ks : List (Str × V)} {kw : List (Str × Value)}, KwR ks kw → kw.map (·.1) = ks.map (·.1)
  | _, _, .nil => rfl
  | _, _, .cons h r => by
    rw [List.map_cons, List.map_cons, kwR_keys r, h.1]
theorem kwR_kv : ∀ {ks : List (Str × V)} {kw : List (Str × Value)}, KwR ks kw → KV (keyed ks) (kwKeys kw)
  | _, _, .nil => .nil
  | _, _, .cons h r => .cons ⟨congrArg Sum.inr h.1, h.2⟩ (kwR_kv r)
section
variable {P : Program} {w : World} {K : PySem.W.Frag} {mg : Str → Option Value} {base : Heap} {A : Around} {outer : List Env} {s : Shared} {H : Hp}
theorem env0_kept {h' : Heap} {t' : Nat} {u : HO} (e0 : Env0 P w K mg base A outer s H) (kp : ∀ b o, s.heap.get? b = some o → h'.get? b = some o) (new : ObjOk P w (upd H s.heap.objs.size u) h' s.heap.objs.size u) :
    Env0 P w K mg base A outer { s with heap := h', toks := t' } (upd H s.heap.objs.size u) := by
  refine ⟨e0.frames, e0.mod, fun b x e => ⟨kp b x (e0.bs b x e).1, ?_⟩, ?_, Heap.FunFrames.of_keeps (fun b x e _ => ⟨x, kp b x e, rfl⟩) e0.funs, fun b hb => ?_, e0.hok.laid kp (Nat.le_refl _) new, e0.bare⟩
  · rw [upd_ne (Nat.ne_of_lt (Heap.lt_size (e0.bs b x e).1))]
    exact (e0.bs b x e).2
  · exact Nat.le_trans e0.bsz (Nat.le_of_lt new.lt)
  · obtain ⟨_, x, hx, _⟩ := e0.funs.mem hb
    rw [upd_ne (Nat.ne_of_lt (Heap.lt_size hx))]
    exact e0.frf b hb
end
/-- the shape of a def (self, constant=.., **coefficients) -/
structure KwPar (p : Arguments) : Prop where
  e1 : p.posonlyargs = []
  e2 : ∃ a b, p.args = [a, b] ∧ a.arg = "self" ∧ b.arg = "constant"
  e3 : p.kwonlyargs = []
  e4 : p.vararg = none
  e5 : ∃ c, p.kwarg = some c ∧ c.arg = "coefficients"
/-- the values ahead: constant's own, or the default -/
def kwFirst (dv : V) : List V → V
  | [] => dv
  | c :: _ => c
/-- what such a def keeps -/
def KwOk (P : Program) (w : World) (K : PySem.W.Frag) (mg : Str → Option Value) (base : Heap) (k : Nat) (f : Addr) (dv : V) (sp : Sp) : Prop :=
  ∀ (A : Around) (outer : List Env) (s : Shared) (H : Hp) (v0 : V) (u0 : Value) (vs : List V) (us : List Value) (ks : List (Str × V)) (kw : List (Str × Value)) (Q : VK) (E : XK), Room k A → Env0 P w K mg base A outer s H →
    RelV v0 u0 → Vals vs us → vs.length ≤ 1 → KwR ks kw → (∀ p ∈ ks, p.1 ≠ "self" ∧ p.1 ≠ "constant") → (ks.map (·.1)).Nodup → ks.length ≤ sizeLine →
    (∀ d, H d = none → sp [v0, kwFirst dv vs, .ref d] (upd H d (.dK (keyed ks))) Q E) →
    codeAny (model P w) A (.call (.ref f) ⟨u0 :: us, kw⟩) (CR CX0 outer P w H s Q E) s
section
variable {P : Program} {w : World} {K : PySem.W.Frag} {mg : Str → Option Value} {base : Heap} {k : Nat} {f : Addr} {name qual : Str} {params : Arguments} {body : List Stmt} {scope : Scope} {N : List Str} {sp : Sp} {dv : V} {fd : FuncData}
/-- a call of such a def -/
theorem run_kwdef (F : FunD K name qual params body scope [dv] [] f fd) (hp : KwPar params) (S : FnScope N ["self", "constant", "coefficients"] scope)
    (hbody : ∀ (cdv : Value) (A : Around) (outer : List Env) (s : Shared) (H : Hp) (vs : List V) (Q : VK) (E : XK), Room k (A.deeper (envOfC qual scope s.heap.objs.size f cdv)) → sp vs H Q E →
      ∃ t, PSs (cxOf CX0 P w K mg base N qual scope f cdv A outer s H E).nox body t ∧ t { nx := fun _ H' => Q .non H', rt := Q } (start N vs) H)
: KwOk P w K mg base (k + 1) f dv sp := by
  intro A outer s H v0 u0 vs us ks kw Q E hr e0 r0 r hl rk hk hnd hz h
  obtain ⟨oc, od, dV, kV, doc, pm, an, cdv, ct, osl, rfl, lk, hcd, hD, _⟩ := F.ex
  obtain ⟨a1, a2, ea, en1, en2⟩ := hp.e2
  obtain ⟨a3, ea3, en3⟩ := hp.e5
  rcases hD with ⟨e, _⟩ | ⟨_, T, o, its, n, rfl, lT, oT, rT⟩
  · cases e
  cases rT with
  | @cons _ du _ _ rd rn =>
  cases rn
  have KX : K.In s.heap := e0.mod.kin.keeps fun b o e => (e0.bs b o e).1
  have hn : H s.heap.objs.size = Option.none := e0.hok.fresh (Nat.le_refl _)
  have hdef : PySem.W.Looks (model P w) s.heap (seqItems? (.ref T)) (some #[du]) := fun A Q E s kp q => wpAny_seqItems (kp _ _ (KX _ _ lT)) oT q
  obtain ⟨b, hf, rb⟩ : ∃ b, (u0 :: us = [u0, b] ∨ (u0 :: us = [u0] ∧ b = du)) ∧ RelV (kwFirst dv vs) b := by
    cases r with
    | nil => exact ⟨du, .inr ⟨rfl, rfl⟩, rd⟩
    | cons rx rr =>
      cases rr with
      | nil => exact ⟨_, .inl rfl, rx⟩
      | cons _ _ => exact absurd hl (by simp)
  have kk := kwR_keys rk
  refine StX.run_bnd (P := P) (w := w) (k := k) (ps := ["self", "constant", "coefficients"]) lk hcd S hr e0 (G := fun xs H2 => ∃ d, H d = Option.none ∧ xs = [v0, kwFirst dv vs, V.ref d] ∧ H2 = upd H d (.dK (keyed ks))) (fun A' Ex Q' hq => ?_) fun s2 H2 xs ⟨d, hd, ex, eH⟩ hr' => ?_
  · refine bind_form hp.e1 ea en1 en2 hp.e3 hp.e4 ea3 en3 hdef hf (fun p hp => ?_) (by rw [kk]; exact hnd) ?_ fun h' t' kp hD => ?_
    · have : p.1 ∈ ks.map (·.1) := by rw [← kk]; exact List.mem_map.mpr ⟨p, hp, rfl⟩
      obtain ⟨q, hq, e⟩ := List.mem_map.mp this
      rw [← e]
      exact hk q hq
    · have := congrArg List.length kk
      rw [List.length_map, List.length_map] at this
      omega
    · have new : ObjOk P w (upd H s.heap.objs.size (.dK (keyed ks))) h' s.heap.objs.size (.dK (keyed ks)) :=
        ⟨by unfold keyed; rw [List.length_map]; exact hz, beq_eq_false_iff_ne.mpr (Ne.symm (Nat.ne_of_lt (StX.env0_big e0))), _, kwR_kv rk, hD⟩
      exact hq _ _ [v0, kwFirst dv vs, V.ref s.heap.objs.size] [u0, b, Value.ref s.heap.objs.size] (env0_kept e0 kp new) (Un.laid kp (Nat.le_refl _) hn) rfl (fun e s' z => z) (.cons r0 (.cons rb (.cons rfl .nil))) rfl ⟨_, hn, rfl, rfl⟩
  · subst ex eH
    obtain ⟨t, ht, q⟩ := hbody cdv A outer s2 _ _ Q E hr' (h d hd)
    exact ⟨t, ht.nox, q⟩
end
end KwX

set_option Elab.async false
set_option linter.all false
set_option maxRecDepth 100000
set_option maxHeartbeats 1000000
namespace KwX
open PySem PySem.Spec PyProof.Rows L2

/-- what is wanted of a new instance: x, its dict, the dict of the keywords -/
def MkQ (C : Addr) (sp : Sp) (E : XK) (dv : V) (vs : List V) (ks : List (Str × V)) (H : Hp) (Q : VK) : Prop :=
  ∀ x dx d, H x = none → H dx = none → H d = none → dx ≠ x → d ≠ x → d ≠ dx → sp [.ref x, kwFirst dv vs, .ref d] (upd (upd (upd H dx (.own x)) x (.ins C dx [])) d (.dK (keyed ks))) (fun v H2 => v = .non ∧ Q (.ref x) H2) E
section
variable {X : Cx} {k : Nat} {f C : Addr} {dv : V} {sp : Sp} {E : XK} {pins : List (Addr × Obj)} {σ : L2.St} {H : Hp} {s : Shared}
theorem run_mk {Q : VK} {us : List Value} {vs : List V} {ks : List (Str × V)} {kw : List (Str × Value)} (M : Mk X.K C f) (F : KwOk X.prog X.w X.K X.mg X.base k f dv sp) (hr : Room (k + 1) X.A) (I : Inv X pins σ H s)
    (r : Vals vs us) (hl : vs.length ≤ 1) (rk : KwR ks kw) (hk : ∀ p ∈ ks, p.1 ≠ "self" ∧ p.1 ≠ "constant") (hnd : (ks.map (·.1)).Nodup) (hz : ks.length ≤ sizeLine) (h : MkQ C sp E dv vs ks H Q) :
    wpAny (model X.prog X.w) X.A (call (.ref C) us kw) (EP X pins σ Q) X.xe s := by
  have nx := I.hok.fresh (Nat.le_succ s.heap.objs.size)
  have ndx := I.hok.fresh (Nat.le_refl s.heap.objs.size)
  have ne := Nat.ne_of_lt (Nat.lt_succ_self s.heap.objs.size)
  have I2 := Inv.made (C := C) I
  refine wpAny_call (make_map (f := f) I.kIn M.makes M.init (beq_iff_eq.mp M.fn) (codeAny_mono (F _ X.stack _ _ (.ref (s.heap.objs.size + 1)) _ vs us ks kw (fun v H2 => v = .non ∧ Q (.ref (s.heap.objs.size + 1)) H2) E (hr.make C us kw) (I2.env0.make C us kw) rfl r hl rk hk hnd hz fun d hd => ?_) fun r s' hq' => ?_))
  · have n1 : d ≠ s.heap.objs.size + 1 := fun z => by rw [z, upd_same] at hd; cases hd
    have n2 : d ≠ s.heap.objs.size := fun z => by rw [z, upd_ne ne, upd_same] at hd; cases hd
    rw [upd_ne n1, upd_ne n2] at hd
    exact h (s.heap.objs.size + 1) s.heap.objs.size d nx ndx hd ne n1 n2
  · cases r with
    | error e => exact False.elim hq'
    | ok fl =>
      cases fl with
      | ret u =>
        obtain ⟨v, H', I3, rv, ev, q3⟩ := I2.after hq'
        subst ev
        exact ⟨rv, ⟨V.ref (s.heap.objs.size + 1), H', I3, rfl, q3⟩⟩
      | next => exact False.elim hq'
      | brk => exact False.elim hq'
      | cont => exact False.elim hq'
end
/-- the values of a dict whose keys are texts -/
def pairsOf (kvs : List (Key × V)) : List (Str × V) := kvs.filterMap fun p => match p.1 with
  | .inr x => some (x, p.2)
  | .inl _ => none
theorem kwOf_rel : ∀ {kvs : List (Key × V)} {vs : List (Key × Value)}, KV kvs vs → KwR (pairsOf kvs) (kwOf vs)
  | _, _, .nil => .nil
  | (k, v) :: kvs, (k', u) :: vs, .cons h r => by
    obtain ⟨h1, h2⟩ := h
    simp only at h1
    subst h1
    cases k with
    | inl i =>
      show KwR (pairsOf kvs) (kwOf vs)
      exact kwOf_rel r
    | inr x =>
      show KwR ((x, v) :: pairsOf kvs) ((x, u) :: kwOf vs)
      exact .cons ⟨rfl, h2⟩ (kwOf_rel r)
theorem kv_keys {kvs : List (Key × V)} {vs : List (Key × Value)} (h : KV kvs vs) : ∀ p ∈ vs, ∃ q ∈ kvs, q.1 = p.1 := by
  induction h with
  | nil => intro p hp; cases hp
  | cons h r ih =>
    intro p hp
    rcases List.mem_cons.mp hp with rfl | hp
    · exact ⟨_, List.mem_cons_self, h.1⟩
    · obtain ⟨q, hq, e⟩ := ih p hp
      exact ⟨q, List.mem_cons_of_mem _ hq, e⟩
theorem kv_map {kvs : List (Key × V)} {vs : List (Key × Value)} (h : KV kvs vs) : kvs.map (·.1) = vs.map (·.1) := by
  induction h with
  | nil => rfl
  | cons h r ih => rw [List.map_cons, List.map_cons, ih, h.1]
/-- C(e, **t) -/
def tMkT (C : Addr) (sp : Sp) (E : XK) (dv : V) (ta tt : TE) : TE := fun σ H Q => ta σ H fun x H1 => ∀ d0, H1 d0 = none → tt σ (upd H1 d0 (.dK [])) fun y H2 => ∃ o ks, y = .ref o ∧ o ≠ d0 ∧ H2 o = some (.dK (keyed ks)) ∧ H2 d0 = some (.dK []) ∧
  (∀ p ∈ ks, p.1 ≠ "self" ∧ p.1 ≠ "constant") ∧ (ks.map (·.1)).Nodup ∧ MkQ C sp E dv [x] ks (upd H2 d0 (.dK (keyed ks))) Q
theorem pairsOf_keyed : ∀ (ks : List (Str × V)), pairsOf (keyed ks) = ks
  | [] => rfl
  | (x, v) :: ks => by
    show (x, v) :: pairsOf (keyed ks) = _
    rw [pairsOf_keyed ks]
section
variable {X : Cx} {k : Nat} {f C : Addr} {dv : V} {sp : Sp} {E : XK} {x : Str} {p pos kpos : Pos} {e e2 : Expr} {ta tt : TE}
theorem pe_mkT (M : Mk X.K C f) (F : KwOk X.prog X.w X.K X.mg X.base k f dv sp) (hr : Room (k + 1) X.A) (hg : Gl X x) (hm : X.mg x = some (.ref C)) (he : PE X e ta) (ht : PE X e2 tt) (hdb : (x == ("__debug__" : Str)) = false := by decide)
    (hst : starEach [e] X.env = [(false, eval e X.env)] := by rfl) : PE X (.Call (.Name x p) [e] [⟨none, e2, kpos⟩] pos) (tMkT C sp E dv ta tt) := by
  refine ⟨fun pins s σ H Q I h => ?_⟩
  refine wpAny_Call_Name_kw (ld_glob I hg hm ?_ hdb)
  rw [hst]
  show wpAny _ _ (callWith pos (.ref C) [] [(false, eval e X.env)] [(none, do let v ← eval e2 X.env; standAt pos; pure v)]) _ _ _
  refine callWith_one (K := X.K) M.kp (evalArgs_one ?_)
  refine Calls.spliced_cons (thn (he.run pins s σ H _ I h) fun u s1 ⟨y, H1, I1, r1, q1⟩ => Calls.spliced_nil ?_)
  have hn := I1.hok.fresh (Nat.le_refl s1.heap.objs.size)
  have hbig : sysModules < s1.heap.objs.size := StX.env0_big I1.env0
  have I2 : Inv X pins σ (upd H1 s1.heap.objs.size (.dK [])) { s1 with heap := s1.heap.push dict0 } := I1.laid (t' := s1.toks) (fun b u e => Heap.get?_push_of_some _ e) (Nat.le_refl _) (dk_empty _ hbig)
  refine wpAny_bind (thn (ht.run pins _ σ _ _ I2 (q1 s1.heap.objs.size hn)) fun v s2 ⟨z, H2, I3, r2, o, ks, ez, ne, ho, h0, hk, hnd, q2⟩ => wpAny_bind (wpAny_standAt (wpAny_pure ?_)))
  subst ez
  obtain rfl : v = Value.ref o := r2
  obtain ⟨zl, hsm, vs, rv, hD⟩ := I3.hok o _ ho
  obtain ⟨_, hsm0, vs0, rv0, hD0⟩ := I3.hok _ _ h0
  cases rv0
  have hlen : vs.length ≤ sizeLine := by have := Paired.length rv; omega
  refine ⟨o, vs, rfl, Ne.symm ne, hsm, hD0, hD, hlen, fun p hp => ?_, fun h' a b c => ?_⟩
  · obtain ⟨q, hq, e⟩ := kv_keys rv p hp
    obtain ⟨y', hy', ey⟩ := List.mem_map.mp hq
    exact ⟨y'.1, by rw [← e, ← ey]⟩
  · have I4 : Inv X pins σ (upd H2 s1.heap.objs.size (.dK (keyed ks))) { s2 with heap := h' } := by
      refine I3.write (t' := s2.toks) (x := s1.heap.objs.size) (e := s1.heap.objs.size) (o := .dK (keyed ks)) (by rw [h0]; exact True.intro) (.inl rfl) (fun b u hb e => (c.2 b hb).trans e) ?_ ⟨zl, hsm0, vs, rv, a⟩
      obtain ⟨o', _, _, e', _⟩ := a
      exact ⟨o', e'⟩
    have rk : KwR ks (kwOf vs) := by
      have := kwOf_rel rv
      rw [pairsOf_keyed] at this
      exact this
    refine ⟨I4.kIn, ?_⟩
    exact run_mk (us := [u]) (vs := [y]) M F hr I4 (.cons r1 .nil) (Nat.le_refl 1) rk hk hnd (by unfold keyed at zl; rw [List.length_map] at zl; exact zl) q2
end
end KwX

set_option Elab.async false
set_option linter.all false
set_option maxRecDepth 100000
set_option maxHeartbeats 1000000
namespace OpX
open PySem PySem.Spec PyProof.Rows L2

theorem back {Q : Value → Shared → Prop} {v : V} {u : Value} {s : Shared} (r : RelV v u) (q : Q u s) : PySem.W.CmpBack Q u s := by
  cases v with
  | non => cases r; exact q
  | bl _ => cases r; exact q
  | int _ => obtain ⟨t, rfl⟩ := r; exact q
  | str _ => obtain ⟨t, rfl⟩ := r; exact q
  | byt _ => obtain ⟨t, rfl⟩ := r; exact q
  | flt _ => obtain ⟨t, rfl⟩ := r; exact q
  | ref _ => cases r; exact q
  | ty _ => cases r; exact q
/-- a class with an operator of its own (its def at f), its right one at g or none -/
structure OpC (K : PySem.W.Frag) (C : Addr) (op : Operator) (f : Addr) : Prop where
  first : PySem.W.selfFirst K C = true
  at_ : PySem.W.findIn K (.ref C) (PySem.dunder op.info.2) = some (some (.ref f))
  fn : PySem.W.isFn K (.ref f) = true
  rr : ∃ rc, PySem.W.findIn K (.ref C) (PySem.dunderR op.info.2) = some rc ∧ (rc = none ∨ ∃ g : Addr, rc = some (.ref g))
  i1 : ∃ fo, PySem.W.findIn K (.type "int") (PySem.dunder op.info.2) = some fo
  i2 : ∃ ro, PySem.W.findIn K (.type "int") (PySem.dunderR op.info.2) = some ro
  sub : PySem.W.subIn K (.type "int") (.ref C) = some false
/-- x op y, x an instance of C, y another one or an int -/
def rOwn (C : Addr) (sp : Sp) (E : XK) : R2 := fun x y H Q => ∃ a dx fs, x = .ref a ∧ H a = some (.ins C dx fs) ∧ ((∃ i, y = .int i) ∨ ∃ b dy gs, y = .ref b ∧ H b = some (.ins C dy gs)) ∧ sp [x, y] H Q E
section
variable {X : Cx} {CX : CXT} {k : Nat} {f g C : Addr} {fd : FuncData} {ps : List Str} {sp : Sp} {E : XK}
theorem op_own {op : Operator} (O : OpC X.K C op f) (F : FnOk X.prog X.w X.K X.mg X.base CX k f fd ps sp) (hr : Room k X.A) (hb : Binds X.K fd ps []) (hx : Passes CX X E) : OpR X (binaryOp op) (rOwn C sp E) := by
  intro pins s σ H x y u v Q I rx ry h
  obtain ⟨a, dx, fs, rfl, ha, hy, hsp⟩ := h
  obtain rfl : u = Value.ref a := rx
  obtain ⟨mA, J, _⟩ := ins_get I.hok ha
  obtain ⟨od, J, _⟩ := J.look
  obtain ⟨m, hF⟩ := I.fr
  have hcall : wpAny (model X.prog X.w) X.A (call (.ref f) [.ref a, v]) (PySem.W.CmpBack (EP X pins σ Q)) X.xe s := by
    refine thn (run_fn (Q := Q) (us := [.ref a, v]) (vs := [.ref a, y]) F hr hb .nil hx I (.cons rfl (.cons ry .nil)) (by rw [List.append_nil]; exact hsp)) fun w' s' hh => ?_
    obtain ⟨z, H', I', rz, q⟩ := hh
    exact back rz ⟨z, H', I', rz, q⟩
  rcases hy with ⟨i, rfl⟩ | ⟨b, dy, gs, rfl, hb'⟩
  · obtain ⟨t, rfl⟩ := (show ∃ t, v = Value.int i t from ry)
    obtain ⟨rc, h1, h2⟩ := O.rr
    obtain ⟨fo, h3⟩ := O.i1
    obtain ⟨ro, h4⟩ := O.i2
    exact PySem.W.ksp_binT (T := "int") hF I.ok.mod.kin J rfl O.first O.at_ O.fn h1 h2 h3 h4 O.sub hcall
  · obtain rfl : v = Value.ref b := ry
    obtain ⟨mB, J', _⟩ := ins_get I.hok hb'
    obtain ⟨od', J', _⟩ := J'.look
    exact PySem.W.binop_K hF I.ok.mod.kin J J'.type O.first O.at_ O.fn hcall
/-- -x -/
theorem un_own (hs : PySem.W.findIn X.K (.ref C) "__neg__" = some (some (.ref f))) (hf : PySem.W.isFn X.K (.ref f) = true) (F : FnOk X.prog X.w X.K X.mg X.base CX k f fd ps sp) (hr : Room k X.A) (hb : Binds X.K fd ps []) (hx : Passes CX X E) :
    UnR X (unaryOp .USub) (fun x H Q => ∃ a dx fs, x = .ref a ∧ H a = some (.ins C dx fs) ∧ sp [x] H Q E) := by
  intro pins s σ H x u Q I rx h
  obtain ⟨a, dx, fs, rfl, ha, hsp⟩ := h
  obtain rfl : u = Value.ref a := rx
  obtain ⟨mA, J, _⟩ := ins_get I.hok ha
  obtain ⟨od, J, _⟩ := J.look
  obtain ⟨m, hF⟩ := I.fr
  exact PySem.W.ksp_neg hF I.ok.mod.kin J hs hf (run_fn (us := [.ref a]) (vs := [.ref a]) F hr hb .nil hx I (.cons rfl .nil) (by rw [List.append_nil]; exact hsp))
end

/-! an int on the left -/
/-- int's own operator at an instance says NotImplemented -/
structure IntL (op : Operator) (id : String) : Prop where
  look : Slot "int" (PySem.dunder op.info.2) id
  gives : ∀ {prog : Program} {w : World} {A : Around} {E : Value → Shared → Prop} {s : Shared} {i : Int} {t : Tok} {b : Addr} {ob : Obj} {Q : Value → Shared → Prop}, s.heap.get? b = some ob → ob.data = .plain → Q .notImplemented s →
    wpAny (model prog w) A (call (.builtin id) [.int i t, .ref b]) Q E s
  fills : fillsNumberSlot (.type "int") op.info.2 = pure true
theorem asInt_inst {M : Model} {A : Around} {E : Value → Shared → Prop} {s : Shared} {b : Addr} {ob : Obj} {Q : Option Int → Shared → Prop} (h1 : s.heap.get? b = some ob) (h2 : ob.data = .plain) (hq : Q none s) : wpAny M A (asInt? (.ref b)) Q E s := by
  unfold asInt?
  refine wpAny_bind (wpAny_load h1 ?_)
  rw [h2]
  exact wpAny_pure hq
theorem intAdd : IntL .Add "int.__add__" where
  look := F.slot_int_add
  gives := fun {prog w A E s i t b ob Q} h1 h2 hq => by
    refine GQ.call_here F.slot_int_add rfl F.entry_int_add (F.args_int_add_2 _ _) ?_
    unfold Builtin.«int.__add__» Builtin.Int.intBinary
    refine wpAny_bind (wpAny_of_eq (a := (Value.int i t, [Value.ref b])) (by first | rfl | kernel_rfl) ?_)
    refine wpAny_bind (wpAny_of_eq (a := i) (by first | rfl | kernel_rfl) ?_)
    refine wpAny_bind (asInt_inst h1 h2 ?_)
    exact wpAny_bind (wpAny_rule (wpAny_pure hq))
  fills := F.fills_int_add
theorem intSub : IntL .Sub "int.__sub__" where
  look := F.slot_int_sub
  gives := fun {prog w A E s i t b ob Q} h1 h2 hq => by
    refine GQ.call_here F.slot_int_sub rfl F.entry_int_sub (F.args_int_sub_2 _ _) ?_
    unfold Builtin.«int.__sub__» Builtin.Int.intBinary
    refine wpAny_bind (wpAny_of_eq (a := (Value.int i t, [Value.ref b])) (by first | rfl | kernel_rfl) ?_)
    refine wpAny_bind (wpAny_of_eq (a := i) (by first | rfl | kernel_rfl) ?_)
    refine wpAny_bind (asInt_inst h1 h2 ?_)
    exact wpAny_bind (wpAny_rule (wpAny_pure hq))
  fills := F.fills_int_sub
theorem intMul : IntL .Mult "int.__mul__" where
  look := F.slot_int_mul
  gives := fun {prog w A E s i t b ob Q} h1 h2 hq => by
    refine GQ.call_here F.slot_int_mul rfl F.entry_int_mul (F.args_int_mul_2 _ _) ?_
    unfold Builtin.«int.__mul__» Builtin.Int.intBinary
    refine wpAny_bind (wpAny_of_eq (a := (Value.int i t, [Value.ref b])) (by first | rfl | kernel_rfl) ?_)
    refine wpAny_bind (wpAny_of_eq (a := i) (by first | rfl | kernel_rfl) ?_)
    refine wpAny_bind (asInt_inst h1 h2 ?_)
    exact wpAny_bind (wpAny_rule (wpAny_pure hq))
  fills := F.fills_int_mul
/-- a class whose right operator stands at g (and perhaps a left one) -/
structure OpR' (K : PySem.W.Frag) (C : Addr) (op : Operator) (g : Addr) : Prop where
  first : PySem.W.selfFirst K C = true
  at_ : ∃ f : Addr, PySem.W.findIn K (.ref C) (PySem.dunder op.info.2) = some (some (.ref f))
  rr : PySem.W.findIn K (.ref C) (PySem.dunderR op.info.2) = some (some (.ref g))
  fn : PySem.W.isFn K (.ref g) = true
  sub : PySem.W.subIn K (.ref C) (.type "int") = some false
def rRev (C : Addr) (sp : Sp) (E : XK) : R2 := fun x y H Q => ∃ i a dx fs, x = .int i ∧ y = .ref a ∧ H a = some (.ins C dx fs) ∧ sp [y, x] H Q E
section
variable {X : Cx} {CX : CXT} {k : Nat} {g C : Addr} {fd : FuncData} {ps : List Str} {sp : Sp} {E : XK}
open PySem.W in
theorem op_rev {op : Operator} {id : String} (L : IntL op id) (O : OpR' X.K C op g) (F : FnOk X.prog X.w X.K X.mg X.base CX k g fd ps sp) (hr : Room k X.A) (hb : Binds X.K fd ps []) (hx : Passes CX X E) : OpR X (binaryOp op) (rRev C sp E) := by
  intro pins s σ H x y v u Q I rx ry h
  obtain ⟨i, a, dx, fs, rfl, rfl, ha, hsp⟩ := h
  obtain rfl : u = Value.ref a := ry
  obtain ⟨t, rfl⟩ := (show ∃ t, v = Value.int i t from rx)
  obtain ⟨mA, J, _⟩ := ins_get I.hok ha
  have hat := J.obj
  obtain ⟨od, J, _⟩ := J.look
  obtain ⟨f, hs⟩ := O.at_
  obtain ⟨cd, rest, hcd, hm⟩ := ksp_first O.first
  have hcall : wpAny (model X.prog X.w) X.A (call (.ref g) [.ref a, .int i t]) (PySem.W.CmpBack (EP X pins σ Q)) X.xe s := by
    refine thn (run_fn (Q := Q) (us := [.ref a, .int i t]) (vs := [.ref a, .int i]) F hr hb .nil hx I (.cons rfl (.cons rx .nil)) (by rw [List.append_nil]; exact hsp)) fun w' s' hh => ?_
    obtain ⟨z, H', I', rz, q⟩ := hh
    exact back rz ⟨z, H', I', rz, q⟩
  have KX := I.kIn
  have hrr := O.rr
  have one := ksp_try KX J O.rr O.fn hcall
  have L1 : Looks (model X.prog X.w) s.heap (typeOf (.ref a)) (.ref C) := J.type
  have L3 : Looks (model X.prog X.w) s.heap (fillsNumberSlot (.ref C) op.info.2) true := fills_K KX hcd hm hs
  have L5 : Looks (model X.prog X.w) s.heap (isSubtype (.ref C) (.type "int")) false := looks_subIn KX O.sub
  have hne : (Value.type "int" == Value.ref C) = false := Bool.eq_false_iff.mpr fun q => by cases beq_iff_eq.mp q
  have hfill := L.fills
  have hslot := L.look
  have first : ∀ {Q' : Option Value → Shared → Prop}, Q' none s → wpAny (model X.prog X.w) X.A (tryMethod (.int i t) (PySem.dunder op.info.2) (.ref a)) Q' X.xe s := fun {Q'} q => by
    unfold tryMethod
    refine wpAny_bind (wpAny_callSpecial?_slot (T := "int") rfl hslot ?_)
    exact L.gives hat rfl (wpAny_pure q)
  rcases hi : op.info with ⟨sym, nm'⟩
  rw [hi] at hs hfill hslot first L3 one
  dsimp only at hs hfill hslot first L3 one
  have L2 : Looks (model X.prog X.w) s.heap (fillsNumberSlot (.type "int") nm') true := Looks.of_pure hfill
  have L7 : Looks (model X.prog X.w) s.heap (numberSlotInPython (.type "int") nm') false := Looks.of_pure rfl
  obtain ⟨hh, g', d, tt, os⟩ := s
  have L0 : Looks (model X.prog X.w) hh (typeOf (.int i t)) (.type "int") := Looks.of_pure rfl
  simp only [binaryOp, hi]
  refine wpAny_holding (wpAny_bind ?_)
  unfold binaryOp1
  refine wpAny_bind (L0.at (wpAny_bind (L1.at (wpAny_bind (L2.at ?_)))))
  simp only [hne, Bool.false_eq_true, if_false]
  ksp_lk
  refine first ?_
  ksp_lk
  refine wpAny_mono one (fun r s' hr' => ?_) fun _ _ e => e
  obtain ⟨v, rfl, hq⟩ := hr'
  ksp_lk
  exact hq
end
end OpX

set_option Elab.async false
set_option linter.all false
set_option maxRecDepth 100000
set_option maxHeartbeats 1000000
namespace Ow
open PySem PySem.Spec PyProof.Rows L2

/-! ### a def of the module, with its promise -/
structure Cal (P : Program) (w : World) (K : PySem.W.Frag) (mg : Str → Option Value) (base : Heap) (x : Str) (k : Nat) (sp : Sp) : Prop where
  ex : ∃ (f : Addr) (fd : FuncData) (ps : List Str), mg x = some (.ref f) ∧ FnOk P w K mg base CX0 k f fd ps sp ∧ Binds K fd ps [] ∧ PySem.W.keepIn K (.ref f) = true
def tCal (sp : Sp) (t : TA) : TE := fun σ H Q => t σ H fun vs H1 => sp vs H1 Q E0
section
variable {X : Cx} {k : Nat} {sp : Sp} {x m : Str} {e o : Expr} {es : List Expr} {t : TA} {te : TE} {p pos apos : Pos} {C : Addr}
theorem pe_cal (c : Cal X.prog X.w X.K X.mg X.base x k sp) (hr : Room k X.A) (ha : PA X (e :: es) t) (hg : Gl X x := by rfl) (hdb : (x == ("__debug__" : Str)) = false := by decide)
    (he : starEach (e :: es) X.env = (false, eval e X.env) :: starEach es X.env := by rfl) (hpl : (backTo pos (starEach es X.env)).any (·.1) = false := by rfl) :
    PE X (.Call (.Name x p) (e :: es) [] pos) (tCal sp t) := by
  refine ⟨fun pins s σ H Q I h => ?_⟩
  obtain ⟨f, fd, ps, hm, F, hb, hk⟩ := c.ex
  refine (pe_call F hr hg hm hk hb .nil pass0 ha hdb he hpl).run pins s σ H Q I ?_
  show t σ H fun vs H1 => sp (vs ++ []) H1 Q E0
  have e0 : (fun vs H1 => sp (vs ++ []) H1 Q E0) = fun vs H1 => sp vs H1 Q E0 := by
    funext vs H1
    rw [List.append_nil]
  rw [e0]
  exact h
/-- a method of the class at C -/
structure CalM (P : Program) (w : World) (K : PySem.W.Frag) (mg : Str → Option Value) (base : Heap) (C : Addr) (m : Str) (k : Nat) (sp : Sp) : Prop where
  cl : Cls K C
  ex : ∃ (f : Addr) (fd : FuncData) (ps : List Str), Meth K C m f ∧ FnOk P w K mg base CX0 k f fd ps sp ∧ Binds K fd ps []
def tCalM (C : Addr) (m : Str) (sp : Sp) (ta : TE) (t : TA) : TE := fun σ H Q => ta σ H fun x H1 => ∃ a dx fs, x = .ref a ∧ H1 a = some (.ins C dx fs) ∧ fs.lookup m = none ∧ t σ H1 fun vs H2 => sp (x :: vs) H2 Q E0
theorem pe_calM {pl : Sem Bool} (c : CalM X.prog X.w X.K X.mg X.base C m k sp) (hr : Room k X.A) (ho : PE X o te) (ha : PA X (e :: es) t)
    (ht : eval (.Call (.Attribute o m apos) (e :: es) [] pos) X.env = (do
      let ov ← eval o X.env
      standAt apos.atName
      let (f, first) ← holding [ov] (getMethod ov m pl)
      callWith pos f first (backTo pos (starEach (e :: es) X.env)) (backToKw pos (keywordEach [] X.env))) := by rfl)
    (hst : starEach (e :: es) X.env = (false, eval e X.env) :: starEach es X.env := by rfl) (hpl : (backTo pos (starEach es X.env)).any (·.1) = false := by rfl) :
    PE X (.Call (.Attribute o m apos) (e :: es) [] pos) (tCalM C m sp te t) := by
  refine ⟨fun pins s σ H Q I h => ?_⟩
  obtain ⟨f, fd, ps, hm, F, hb⟩ := c.ex
  refine (pe_meth ho c.cl hm F hr hb .nil pass0 ha hst hpl ht).run pins s σ H Q I ?_
  show te σ H fun x H1 => ∃ a dx fs, x = .ref a ∧ H1 a = some (.ins C dx fs) ∧ fs.lookup m = none ∧ t σ H1 fun vs H2 => sp (x :: (vs ++ [])) H2 Q E0
  have e0 : (fun x H1 => ∃ a dx fs, x = V.ref a ∧ H1 a = some (.ins C dx fs) ∧ fs.lookup m = none ∧ t σ H1 fun vs H2 => sp (x :: (vs ++ [])) H2 Q E0) =
      fun x H1 => ∃ a dx fs, x = V.ref a ∧ H1 a = some (.ins C dx fs) ∧ fs.lookup m = none ∧ t σ H1 fun vs H2 => sp (x :: vs) H2 Q E0 := by
    funext x H1
    simp only [List.append_nil]
  rw [e0]
  exact h
theorem pe_calM0 {pl : Sem Bool} (c : CalM X.prog X.w X.K X.mg X.base C m k sp) (hr : Room k X.A) (ho : PE X o te)
    (ht : eval (.Call (.Attribute o m apos) [] [] pos) X.env = (do
      let ov ← eval o X.env
      standAt apos.atName
      let (f, first) ← holding [ov] (getMethod ov m pl)
      callWith pos f first (backTo pos (starEach [] X.env)) (backToKw pos (keywordEach [] X.env))) := by rfl) :
    PE X (.Call (.Attribute o m apos) [] [] pos) (tCalM C m sp te tNil) := by
  refine ⟨fun pins s σ H Q I h => ?_⟩
  obtain ⟨f, fd, ps, hm, F, hb⟩ := c.ex
  exact (pe_meth0 ho c.cl hm F hr hb .nil pass0 ht).run pins s σ H Q I h
end

/-! ### the heap but for one object -/
def Stay (b : Addr) (H H' : Hp) : Prop := ∀ a o, a ≠ b → H a = some o → H' a = some o
theorem Stay.refl (b : Addr) (H : Hp) : Stay b H H := fun _ _ _ h => h
theorem Stay.trans {b : Addr} {H H1 H2 : Hp} (x : Stay b H H1) (y : Stay b H1 H2) : Stay b H H2 := fun a o n h => y a o n (x a o n h)
theorem Stay.of {b : Addr} {H H' : Hp} (s : Same H H') : Stay b H H' := fun a o _ h => s a o h
theorem Stay.upd {b : Addr} {H H' : Hp} {o : HO} (s : Stay b H H') : Stay b H (upd H' b o) := fun a u n h => by rw [upd_ne n]; exact s a u n h
theorem Stay.new {b p : Addr} {H H' : Hp} {o : HO} (s : Stay b H H') (h : H' p = none) : Stay b H (L2.upd H' p o) := fun a u n e => by rw [upd_ne (ne_of_none (s a u n e) h)]; exact s a u n e
/-- the bag of draws: n or fewer were mixed so far -/
def BagAt (H : Hp) (b : Addr) (n : Nat) : Prop := ∃ d m k : Int, H b = some (.lst [.int d, .int m, .int k]) ∧ 0 ≤ m ∧ m < 11529215046069000000 ∧ 0 ≤ k ∧ k ≤ n
theorem BagAt.mono {H : Hp} {b : Addr} {n n' : Nat} (h : BagAt H b n) (l : n ≤ n') : BagAt H b n' := by
  obtain ⟨d, m, k, h1, h2, h3, h4, h5⟩ := h
  exact ⟨d, m, k, h1, h2, h3, h4, by omega⟩
theorem BagAt.same {H H' : Hp} {b : Addr} {n : Nat} (h : BagAt H b n) (s : Same H H') : BagAt H' b n := by
  obtain ⟨d, m, k, h1, h2⟩ := h
  exact ⟨d, m, k, s _ _ h1, h2⟩
/-- _law_bag: a new bag -/
def spBag (K : PySem.W.Frag) : Sp := fun vs H Q _ => ∃ (a : Addr) (ns : List Int) (j : Nat), vs = [.ref a, .int (j : Int)] ∧ SqL K H a (ns.map V.int) ∧ ns.length ≤ 63 ∧ j ≤ 63 ∧ ∀ b H', H b = none → BagAt H' b 0 → Same H H' → Q (.ref b) H'
/-- _law_take -/
def spTake : Sp := fun vs H Q _ => ∃ (b : Addr) (n : Nat) (many : Int), vs = [.ref b, .int many] ∧ BagAt H b n ∧ n < 1000000000 ∧ 0 < many ∧ many.natAbs < 2 ^ 100 ∧ ∀ r H', 0 ≤ r → r < many → BagAt H' b (n + 1) → Stay b H H' → Q (.int r) H'
theorem ix0 {x y z : V} : atI [x, y, z] 0 = some x := rfl
theorem ix1 {x y z : V} : atI [x, y, z] 1 = some y := rfl
theorem ix2 {x y z : V} : atI [x, y, z] 2 = some z := rfl
end Ow

set_option Elab.async false
set_option linter.all false
set_option maxRecDepth 100000
set_option maxHeartbeats 1000000
/-! plain mathematics: symbols, sums by symbols, sorted lists of pairs -/
namespace Ow
open PySem PySem.Spec PyProof.Rows L2

abbrev Ps := List (Str × Int)
def co : Ps → Str → Int
  | [], _ => 0
  | (x, v) :: r, s => (if x = s then v else 0) + co r s
theorem co_append : ∀ (a b : Ps) (s : Str), co (a ++ b) s = co a s + co b s
  | [], b, s => by show co b s = 0 + co b s; omega
  | (x, v) :: r, b, s => by
    show (if x = s then v else 0) + co (r ++ b) s = (if x = s then v else 0) + co r s + co b s
    rw [co_append r b s]
    omega
theorem co_out : ∀ {a : Ps} {s : Str}, s ∉ a.map (·.1) → co a s = 0
  | [], _, _ => rfl
  | (x, v) :: r, s, h => by
    rw [List.map_cons, List.mem_cons, not_or] at h
    show (if x = s then v else 0) + co r s = 0
    rw [if_neg (Ne.symm h.1), co_out h.2]
    rfl
theorem co_in : ∀ {a : Ps} {q : Str × Int}, (a.map (·.1)).Nodup → q ∈ a → co a q.1 = q.2
  | (x, v) :: r, q, hn, hq => by
    rw [List.map_cons, List.nodup_cons] at hn
    show (if x = q.1 then v else 0) + co r q.1 = q.2
    rcases List.mem_cons.mp hq with rfl | hq
    · rw [if_pos rfl, co_out hn.1]
      show v + 0 = v
      omega
    · have : x ≠ q.1 := fun e => hn.1 (e ▸ List.mem_map.mpr ⟨q, hq, rfl⟩)
      rw [if_neg this, co_in hn.2 hq]
      omega
theorem co_perm {a b : Ps} (h : a.Perm b) (s : Str) : co a s = co b s := by
  induction h with
  | nil => rfl
  | cons x _ ih =>
    obtain ⟨y, v⟩ := x
    show (if y = s then v else 0) + co _ s = (if y = s then v else 0) + co _ s
    rw [ih]
  | swap x y l =>
    obtain ⟨x, v⟩ := x
    obtain ⟨y, u⟩ := y
    show (if y = s then u else 0) + ((if x = s then v else 0) + co l s) = (if x = s then v else 0) + ((if y = s then u else 0) + co l s)
    omega
  | trans _ _ i1 i2 => exact i1.trans i2
/-- m with the value of s set -/
def putS : Ps → Str → Int → Ps
  | [], s, v => [(s, v)]
  | (x, u) :: r, s, v => if x = s then (x, v) :: r else (x, u) :: putS r s v
theorem putS_keys : ∀ (m : Ps) (s : Str) (v : Int), (putS m s v).map (·.1) = m.map (·.1) ∨ (s ∉ m.map (·.1) ∧ (putS m s v).map (·.1) = m.map (·.1) ++ [s])
  | [], s, v => .inr ⟨by simp, rfl⟩
  | (x, u) :: r, s, v => by
    unfold putS
    by_cases e : x = s
    · rw [if_pos e]
      exact .inl rfl
    · rw [if_neg e]
      rcases putS_keys r s v with h | ⟨h1, h2⟩
      · exact .inl (by rw [List.map_cons, List.map_cons, h])
      · refine .inr ⟨?_, by rw [List.map_cons, List.map_cons, h2]; rfl⟩
        rw [List.map_cons, List.mem_cons, not_or]
        exact ⟨Ne.symm e, h1⟩
theorem putS_nodup {m : Ps} (s : Str) (v : Int) (h : (m.map (·.1)).Nodup) : ((putS m s v).map (·.1)).Nodup := by
  rcases putS_keys m s v with e | ⟨e1, e2⟩
  · rw [e]; exact h
  · rw [e2, List.nodup_append]
    refine ⟨h, by simp, fun a ha b hb e => ?_⟩
    rw [List.mem_singleton.mp hb] at e
    exact e1 (e ▸ ha)
theorem putS_len (m : Ps) (s : Str) (v : Int) : (putS m s v).length ≤ m.length + 1 := by
  rcases putS_keys m s v with e | ⟨_, e⟩
  · have := congrArg List.length e
    rw [List.length_map, List.length_map] at this
    omega
  · have := congrArg List.length e
    rw [List.length_map, List.length_append, List.length_map] at this
    simp only [List.length_cons, List.length_nil] at this
    omega
theorem putS_mem {m : Ps} {s : Str} {v : Int} {P : Str → Prop} (h : ∀ q ∈ m, P q.1) (hs : P s) : ∀ q ∈ putS m s v, P q.1 := fun q hq => by
  have hk : q.1 ∈ (putS m s v).map (·.1) := List.mem_map.mpr ⟨q, hq, rfl⟩
  have back : ∀ k ∈ m.map (·.1), P k := fun k hk => by
    obtain ⟨q, hq, rfl⟩ := List.mem_map.mp hk
    exact h q hq
  rcases putS_keys m s v with e | ⟨_, e⟩
  · rw [e] at hk
    exact back _ hk
  · rw [e] at hk
    rcases List.mem_append.mp hk with hk | hk
    · exact back _ hk
    · rw [List.mem_singleton.mp hk]
      exact hs
theorem co_putS : ∀ (m : Ps) (s : Str) (v : Int) (t : Str), (m.map (·.1)).Nodup → co (putS m s v) t = if t = s then v else co m t
  | [], s, v, t, _ => by
    show (if s = t then v else 0) + 0 = _
    by_cases e : t = s
    · rw [if_pos e, if_pos e.symm]; omega
    · rw [if_neg e, if_neg (Ne.symm e)]; rfl
  | (x, u) :: r, s, v, t, hn => by
    rw [List.map_cons, List.nodup_cons] at hn
    unfold putS
    by_cases e : x = s
    · rw [if_pos e]
      subst e
      show (if x = t then v else 0) + co r t = if t = x then v else (if x = t then u else 0) + co r t
      by_cases e2 : t = x
      · subst e2
        rw [if_pos rfl, if_pos rfl, co_out hn.1]; omega
      · rw [if_neg e2, if_neg (Ne.symm e2), if_neg (Ne.symm e2)]
    · rw [if_neg e]
      show (if x = t then u else 0) + co (putS r s v) t = if t = s then v else (if x = t then u else 0) + co r t
      rw [co_putS r s v t hn.2]
      by_cases e2 : t = s
      · subst e2
        rw [if_pos rfl, if_pos rfl, if_neg e]; omega
      · rw [if_neg e2, if_neg e2]
/-- as a dict of the layer -/
def kvI (m : Ps) : List (Key × V) := m.map fun p => (Sum.inr p.1, V.int p.2)
theorem kvI_len (m : Ps) : (kvI m).length = m.length := List.length_map _
theorem kvI_any : ∀ (m : Ps) (s : Str), ((kvI m).any fun kv => decide (kv.1 = Sum.inr s)) = decide (s ∈ m.map (·.1))
  | [], s => by simp [kvI]
  | (x, u) :: r, s => by
    show (decide ((Sum.inr x : Key) = Sum.inr s) || (kvI r).any fun kv => decide (kv.1 = Sum.inr s)) = _
    rw [kvI_any r s, key_rr]
    by_cases e : x = s
    · subst e; simp
    · have : ¬ s = x := Ne.symm e
      simp [e, this]
theorem kvI_upd : ∀ (m : Ps) (s : Str) (v : Int), s ∈ m.map (·.1) → (m.map (·.1)).Nodup → (kvI m).map (fun kv => if kv.1 = Sum.inr s then (kv.1, V.int v) else kv) = kvI (putS m s v)
  | (x, u) :: r, s, v, h, hn => by
    rw [List.map_cons, List.nodup_cons] at hn
    show (if (Sum.inr x : Key) = Sum.inr s then ((Sum.inr x : Key), V.int v) else (Sum.inr x, V.int u)) :: (kvI r).map _ = kvI (if x = s then (x, v) :: r else (x, u) :: putS r s v)
    by_cases e : x = s
    · subst e
      rw [if_pos rfl, if_pos rfl]
      have hx : ∀ (l : Ps), x ∉ l.map (·.1) → (kvI l).map (fun kv => if kv.1 = (Sum.inr x : Key) then (kv.1, V.int v) else kv) = kvI l := fun l => by
        induction l with
        | nil => intro _; rfl
        | cons p l ih =>
          obtain ⟨y, z⟩ := p
          intro hl
          rw [List.map_cons, List.mem_cons, not_or] at hl
          show (if (Sum.inr y : Key) = Sum.inr x then ((Sum.inr y : Key), V.int v) else ((Sum.inr y : Key), V.int z)) :: ((kvI l).map fun kv => if kv.1 = (Sum.inr x : Key) then (kv.1, V.int v) else kv) = _
          rw [if_neg (fun q => hl.1 (Sum.inr.inj q).symm), ih hl.2]
          rfl
      rw [hx r hn.1]
      rfl
    · rw [if_neg (fun q => e (Sum.inr.inj q)), if_neg e]
      rw [List.map_cons, List.mem_cons] at h
      rw [kvI_upd r s v (h.resolve_left (Ne.symm e)) hn.2]
      rfl
theorem putS_new : ∀ (m : Ps) (s : Str) (v : Int), s ∉ m.map (·.1) → putS m s v = m ++ [(s, v)]
  | [], _, _, _ => rfl
  | (x, u) :: r, s, v, h => by
    rw [List.map_cons, List.mem_cons, not_or] at h
    unfold putS
    rw [if_neg (Ne.symm h.1), putS_new r s v h.2]
    rfl
theorem kvI_put {m : Ps} (s : Str) (v : Int) (hn : (m.map (·.1)).Nodup) : putK (kvI m) (Sum.inr s) (V.int v) = kvI (putS m s v) := by
  unfold putK
  rw [kvI_any]
  by_cases h : s ∈ m.map (·.1)
  · rw [if_pos (by simpa using h), kvI_upd m s v h hn]
  · rw [if_neg (by simpa using h), putS_new m s v h]
    unfold kvI
    rw [List.map_append]
    rfl
theorem kvI_val : ∀ (m : Ps) (s : Str), (m.map (·.1)).Nodup → (valV (kvI m) (Sum.inr s)).getD (V.int 0) = V.int (co m s)
  | [], s, _ => rfl
  | (x, u) :: r, s, hn => by
    rw [List.map_cons, List.nodup_cons] at hn
    show (valV (((Sum.inr x : Key), V.int u) :: kvI r) (Sum.inr s)).getD (V.int 0) = V.int ((if x = s then u else 0) + co r s)
    by_cases e : x = s
    · subst e
      rw [valV_pos rfl, if_pos rfl, co_out hn.1]
      show V.int u = V.int (u + 0)
      rw [Int.add_zero]
    · rw [valV_neg (fun q => e (Sum.inr.inj q)), if_neg e, kvI_val r s hn.2, Int.zero_add]
theorem kvI_get : ∀ {m : Ps} {s : Str}, (m.map (·.1)).Nodup → s ∈ m.map (·.1) → valV (kvI m) (Sum.inr s) = some (V.int (co m s))
  | (x, u) :: r, s, hn, h => by
    rw [List.map_cons, List.nodup_cons] at hn
    show valV (((Sum.inr x : Key), V.int u) :: kvI r) (Sum.inr s) = some (V.int ((if x = s then u else 0) + co r s))
    by_cases e : x = s
    · subst e
      rw [valV_pos rfl, if_pos rfl, co_out hn.1, Int.add_zero]
    · rw [List.map_cons, List.mem_cons] at h
      rw [valV_neg (fun q => e (Sum.inr.inj q)), if_neg e, kvI_get hn.2 (h.resolve_left (Ne.symm e)), Int.zero_add]
theorem kvI_keys (m : Ps) : (kvI m).map (·.1) = (m.map (·.1)).map Sum.inr := by
  unfold kvI
  rw [List.map_map, List.map_map]
  rfl
/-! ### order -/
theorem lt_irr : ∀ a : List Nat, ltCps a a = false
  | [] => rfl
  | x :: r => by
    show (decide (x < x) || (x == x && ltCps r r)) = false
    rw [lt_irr r]
    simp
theorem lt_tri : ∀ a b : List Nat, ltCps a b = false → ltCps b a = false → a = b
  | [], [], _, _ => rfl
  | [], _ :: _, h, _ => by cases h
  | _ :: _, [], _, h => by cases h
  | x :: r, y :: t, h1, h2 => by
    have h1 : (decide (x < y) || (x == y && ltCps r t)) = false := h1
    have h2 : (decide (y < x) || (y == x && ltCps t r)) = false := h2
    rw [Bool.or_eq_false_iff] at h1 h2
    have e : x = y := by
      have a := of_decide_eq_false h1.1
      have b := of_decide_eq_false h2.1
      omega
    subst e
    have a := h1.2
    have b := h2.2
    simp only [beq_self_eq_true, Bool.true_and] at a b
    rw [lt_tri r t a b]
theorem lt_trans' : ∀ a b c : List Nat, ltCps a b = true → ltCps b c = true → ltCps a c = true
  | [], [], _, h, _ => by cases h
  | [], _ :: _, [], _, h => by cases h
  | [], _ :: _, _ :: _, _, _ => rfl
  | _ :: _, [], _, h, _ => by cases h
  | _ :: _, _ :: _, [], _, h => by cases h
  | x :: r, y :: t, z :: u, h1, h2 => by
    have h1 : (decide (x < y) || (x == y && ltCps r t)) = true := h1
    have h2 : (decide (y < z) || (y == z && ltCps t u)) = true := h2
    show (decide (x < z) || (x == z && ltCps r u)) = true
    rw [Bool.or_eq_true] at h1 h2 ⊢
    rw [Bool.and_eq_true] at h1 h2 ⊢
    rcases h1 with h1 | ⟨h1, g1⟩
    · have h1 := of_decide_eq_true h1
      rcases h2 with h2 | ⟨h2, _⟩
      · have h2 := of_decide_eq_true h2
        exact .inl (decide_eq_true (by omega))
      · have h2 := eq_of_beq h2
        exact .inl (decide_eq_true (by omega))
    · have h1 := eq_of_beq h1
      rcases h2 with h2 | ⟨h2, g2⟩
      · have h2 := of_decide_eq_true h2
        exact .inl (decide_eq_true (by omega))
      · have h2 := eq_of_beq h2
        exact .inr ⟨by rw [h1, h2]; simp, lt_trans' r t u g1 g2⟩
/-- a ≤ b -/
def LeS (a b : Str) : Prop := ltCps b.cps.toList a.cps.toList = false
theorem leS_anti {a b : Str} (h1 : LeS a b) (h2 : LeS b a) : a = b := by
  have := lt_tri _ _ h2 h1
  obtain ⟨a⟩ := a
  obtain ⟨b⟩ := b
  have e : a = b := by
    have h : a.toList = b.toList := this
    exact Array.ext' h
  rw [e]
theorem leS_trans {a b c : Str} (h1 : LeS a b) (h2 : LeS b c) : LeS a c := by
  unfold LeS at *
  cases h : ltCps c.cps.toList a.cps.toList with
  | false => rfl
  | true =>
    exfalso
    cases hab : ltCps a.cps.toList b.cps.toList with
    | true =>
      have := lt_trans' _ _ _ h hab
      rw [this] at h2
      cases h2
    | false =>
      have e := lt_tri _ _ hab h1
      rw [e] at h
      rw [h] at h2
      cases h2
theorem rising_pw : ∀ (p : Str) (l : List Str), risingS p l = true → (p :: l).Pairwise LeS
  | p, [], _ => List.pairwise_singleton _ _
  | p, x :: r, h => by
    have h : (!ltCps x.cps.toList p.cps.toList && risingS x r) = true := h
    rw [Bool.and_eq_true, Bool.not_eq_true'] at h
    have ih := rising_pw x r h.2
    refine List.pairwise_cons.mpr ⟨fun y hy => ?_, ih⟩
    rcases List.mem_cons.mp hy with rfl | hy
    · exact h.1
    · exact leS_trans h.1 ((List.pairwise_cons.mp ih).1 y hy)
theorem sorted_pw {l : List Str} (h : sortedS l = true) : l.Pairwise LeS := by
  cases l with
  | nil => exact List.Pairwise.nil
  | cons x r => exact rising_pw x r h
theorem sorted_one : ∀ {l l' : List Str}, l.Pairwise LeS → l'.Pairwise LeS → l.Perm l' → l = l'
  | [], l', _, _, h => (List.nil_perm.mp h).symm
  | x :: r, [], _, _, h => absurd h.symm (fun q => by have := List.nil_perm.mp q; cases this)
  | x :: r, y :: t, h1, h2, h => by
    have e : x = y := by
      have hx : x ∈ y :: t := h.mem_iff.mp List.mem_cons_self
      have hy : y ∈ x :: r := h.mem_iff.mpr List.mem_cons_self
      rcases List.mem_cons.mp hx with e | hx
      · exact e
      · rcases List.mem_cons.mp hy with e | hy
        · exact e.symm
        · exact leS_anti ((List.pairwise_cons.mp h1).1 y hy) ((List.pairwise_cons.mp h2).1 x hx)
    subst e
    rw [sorted_one (List.pairwise_cons.mp h1).2 (List.pairwise_cons.mp h2).2 (List.perm_cons x |>.mp h)]
/-- the list of a form's or a dict's parts: by symbols, ascending, without noughts -/
structure Can (L : Ps) (g : Str → Int) : Prop where
  srt : (L.map (·.1)).Pairwise LeS
  nd : (L.map (·.1)).Nodup
  nz : ∀ q ∈ L, q.2 ≠ 0
  val : ∀ s, co L s = g s
theorem can_mem {L : Ps} {g : Str → Int} (c : Can L g) (s : Str) : s ∈ L.map (·.1) ↔ g s ≠ 0 := by
  constructor
  · intro h
    obtain ⟨q, hq, rfl⟩ := List.mem_map.mp h
    rw [← c.val, co_in c.nd hq]
    exact c.nz q hq
  · intro h
    refine Classical.byContradiction fun n => h ?_
    rw [← c.val, co_out n]
theorem perm_of_mem : ∀ {l l' : List Str}, l.Nodup → l'.Nodup → (∀ s, s ∈ l ↔ s ∈ l') → l.Perm l' := fun {l l'} n n' h => (List.perm_ext_iff_of_nodup n n').mpr h
theorem ps_of_keys : ∀ {L L' : Ps}, L.map (·.1) = L'.map (·.1) → (L.map (·.1)).Nodup → (∀ s, co L s = co L' s) → L = L'
  | [], [], _, _, _ => rfl
  | [], _ :: _, h, _, _ => by cases h
  | _ :: _, [], h, _, _ => by cases h
  | (x, u) :: r, (y, v) :: t, h, hn, hv => by
    rw [List.map_cons, List.map_cons] at h
    injection h with h1 h2
    simp only at h1
    subst h1
    rw [List.map_cons, List.nodup_cons] at hn
    have hn' : x ∉ t.map (·.1) := by rw [← h2]; exact hn.1
    have e : u = v := by
      have := hv x
      have a : co ((x, u) :: r) x = u := by
        show (if x = x then u else 0) + co r x = u
        rw [if_pos rfl, co_out hn.1]; omega
      have b : co ((x, v) :: t) x = v := by
        show (if x = x then v else 0) + co t x = v
        rw [if_pos rfl, co_out hn']; omega
      rw [a, b] at this
      exact this
    subst e
    rw [ps_of_keys h2 hn.2 fun s => ?_]
    have h3 : (if x = s then u else 0) + co r s = (if x = s then u else 0) + co t s := hv s
    omega
theorem can_one {L L' : Ps} {g g' : Str → Int} (c : Can L g) (c' : Can L' g') (e : ∀ s, g s = g' s) : L = L' := by
  have hk : L.map (·.1) = L'.map (·.1) := sorted_one c.srt c'.srt (perm_of_mem c.nd c'.nd fun s => by rw [can_mem c, can_mem c', e s])
  exact ps_of_keys hk c.nd fun s => by rw [c.val, c'.val, e s]
end Ow

set_option Elab.async false
set_option linter.all false
set_option maxRecDepth 100000
set_option maxHeartbeats 1000000
namespace Ow
open PySem PySem.Spec PyProof.Rows L2
/-! ### symbols -/
def isLc (l : List Nat) : Bool := decide (1 ≤ l.length) && (decide (l.length ≤ 3) && l.all fun c => decide (97 ≤ c) && decide (c ≤ 122))
def isRc : List Nat → Bool
  | 114 :: ds => decide (1 ≤ ds.length) && (decide (ds.length ≤ 60) && ((ds.all fun c => decide (48 ≤ c) && decide (c ≤ 57)) && (ds == [48] || ds.head? != some 48)))
  | _ => false
def isSym (x : Str) : Bool := isLc x.cps.toList || isRc x.cps.toList
theorem sym_r : ∀ n : Fin 1000, isSym (("r" : Str) ++ ((toString ((n.val : Nat) : Int) : String) : Str)) = true := by decide +kernel
theorem sym_small {x : Str} (h : isSym x = true) : x.cps.toList.length ≤ 61 := by
  unfold isSym at h
  rw [Bool.or_eq_true] at h
  rcases h with h | h
  · unfold isLc at h
    simp only [Bool.and_eq_true, decide_eq_true_eq] at h
    omega
  · unfold isRc at h
    split at h
    · rename_i ds e
      simp only [Bool.and_eq_true, decide_eq_true_eq] at h
      rw [e, List.length_cons]
      omega
    · cases h
theorem sym_len {x : Str} (h : isSym x = true) : x.length ≤ sizeLine := by
  have := sym_small h
  rw [Array.length_toList] at this
  exact Nat.le_trans (show x.length ≤ 61 from this) (by decide)
/-- no name of a parameter is a symbol -/
theorem sym_ne {x : Str} (h : isSym x = true) : x ≠ "self" ∧ x ≠ "constant" := by
  constructor
  · rintro rfl
    exact absurd h (by decide +kernel)
  · rintro rfl
    exact absurd h (by decide +kernel)
/-! ### lists of pairs -/
def PairAt (H : Hp) (x : V) (q : Str × Int) : Prop := ∃ t, x = .ref t ∧ H t = some (.tup [.str q.1, .int q.2])
def PairsAt (H : Hp) (l : Addr) (ps : Ps) : Prop := ∃ xs, H l = some (.lst xs) ∧ Paired (PairAt H) xs ps
structure OkPs (ps : Ps) : Prop where
  sym : ∀ q ∈ ps, isSym q.1 = true
  big : ∀ q ∈ ps, q.2.natAbs ≤ 10 ^ 25
theorem PairAt.same {H H' : Hp} {x : V} {q : Str × Int} (h : PairAt H x q) (s : Same H H') : PairAt H' x q := by
  obtain ⟨t, e, h⟩ := h
  exact ⟨t, e, s _ _ h⟩
theorem paired_map {α β : Type} {F G : α → β → Prop} (f : ∀ a b, F a b → G a b) : ∀ {l : List α} {m : List β}, Paired F l m → Paired G l m
  | _, _, .nil => .nil
  | _, _, .cons h r => .cons (f _ _ h) (paired_map f r)
theorem PairsAt.same {H H' : Hp} {l : Addr} {ps : Ps} (h : PairsAt H l ps) (s : Same H H') : PairsAt H' l ps := by
  obtain ⟨xs, e, p⟩ := h
  exact ⟨xs, s _ _ e, paired_map (fun _ _ q => q.same s) p⟩
theorem PairAt.stay {H H' : Hp} {b : Addr} {x : V} {q : Str × Int} (h : PairAt H x q) (s : Stay b H H') (hb : ∃ xs, H b = some (.lst xs)) : PairAt H' x q := by
  obtain ⟨t, e, h⟩ := h
  obtain ⟨ys, hb⟩ := hb
  exact ⟨t, e, s _ _ (ne_of h hb (by intro z; cases z)) h⟩
theorem BagAt.lst {H : Hp} {b : Addr} {n : Nat} (h : BagAt H b n) : ∃ xs, H b = some (.lst xs) := by
  obtain ⟨d, m, k, h, _⟩ := h
  exact ⟨_, h⟩
theorem PairsAt.stay {H H' : Hp} {b l : Addr} {ps : Ps} (h : PairsAt H l ps) (s : Stay b H H') (hb : ∃ xs, H b = some (.lst xs)) (ne : l ≠ b) : PairsAt H' l ps := by
  obtain ⟨xs, e, p⟩ := h
  exact ⟨xs, s _ _ ne e, paired_map (fun _ _ q => q.stay s hb) p⟩
/-! ### the promises of the draws -/
def spNumber : Sp := fun vs H Q _ => ∃ (b : Addr) (n : Nat), vs = [.ref b] ∧ BagAt H b n ∧ n < 900000000 ∧ ∀ v H', v.natAbs ≤ 10 ^ 25 → BagAt H' b (n + 2) → Stay b H H' → Q (.int v) H'
def spSymbol : Sp := fun vs H Q _ => ∃ (b : Addr) (n : Nat), vs = [.ref b] ∧ BagAt H b n ∧ n < 900000000 ∧ ∀ x H', isSym x = true → BagAt H' b (n + 10) → Stay b H H' → Q (.str x) H'
def spPairs : Sp := fun vs H Q _ => ∃ (b : Addr) (n : Nat) (many : Nat), vs = [.ref b, .int (many : Int)] ∧ BagAt H b n ∧ n < 800000000 ∧ 0 < many ∧ many ≤ 64 ∧
  ∀ l ps H', l ≠ b → H l = none → PairsAt H' l ps → OkPs ps → ps.length < many → BagAt H' b (n + 2000) → Stay b H H' → Q (.ref l) H'
end Ow

set_option Elab.async false
set_option linter.all false
set_option maxRecDepth 100000
set_option maxHeartbeats 1000000
namespace Ow
open PySem PySem.Spec PyProof.Rows L2
/-! ### data of pairs -/
theorem sym_cps {x : Str} (h : isSym x = true) : ∀ c ∈ x.cps.toList, c < 1114112 := by
  unfold isSym at h
  rw [Bool.or_eq_true] at h
  rcases h with h | h
  · unfold isLc at h
    simp only [Bool.and_eq_true, decide_eq_true_eq, List.all_eq_true] at h
    intro c hc
    have := h.2.2 c hc
    omega
  · unfold isRc at h
    split at h
    · rename_i ds e
      simp only [Bool.and_eq_true, decide_eq_true_eq, List.all_eq_true] at h
      intro c hc
      rw [e] at hc
      rcases List.mem_cons.mp hc with rfl | hc
      · decide
      · have := h.2.2.1 c hc
        omega
    · cases h
theorem sym_ok {x : Str} (h : isSym x = true) : PyData.strOk x = true := by
  unfold PyData.strOk
  rw [← Array.all_toList, List.all_eq_true]
  exact fun c hc => decide_eq_true (sym_cps h c hc)
def datP (ps : Ps) : List PyData := ps.map fun q => .tuple [.str q.1, .int q.2]
theorem dpAll_ps {K : PySem.W.Frag} {H : Hp} : ∀ {xs : List V} {ps : Ps}, Paired (PairAt H) xs ps → DpAll K H xs (datP ps)
  | _, _, .nil => .nil
  | _, _, .cons h r => by
    obtain ⟨t, rfl, h⟩ := h
    exact .cons (.tup (SqT.of h) (.cons (.str _) (.cons (.int _) .nil))) (dpAll_ps r)
theorem can_ps : ∀ {ps : Ps}, (∀ q ∈ ps, isSym q.1 = true) → PyData.canLayAll0 (datP ps) = true
  | [], _ => rfl
  | q :: ps, h => by
    show ((PyData.strOk q.1 && (true && true)) && PyData.canLayAll0 (datP ps)) = true
    rw [sym_ok (h q List.mem_cons_self), can_ps fun p hp => h p (List.mem_cons_of_mem _ hp)]
    rfl
theorem depth_ps : ∀ (ps : Ps), PyData.depthAll (datP ps) ≤ 1
  | [] => Nat.zero_le _
  | q :: ps => by
    show max (PyData.depth (.tuple [.str q.1, .int q.2])) (PyData.depthAll (datP ps)) ≤ 1
    have h1 : PyData.depth (.tuple [.str q.1, .int q.2]) = 1 := by simp [PyData.depth, PyData.depthAll]
    have h2 := depth_ps ps
    omega
theorem shapedL {ps : Ps} (h : ∀ q ∈ ps, isSym q.1 = true) : SeqAt.shaped (.list (datP ps)) = true := by
  unfold SeqAt.shaped
  rw [Bool.and_eq_true]
  refine ⟨can_ps h, decide_eq_true ?_⟩
  have := depth_ps ps
  show PyData.depthAll (datP ps) + 1 ≤ 64
  omega
def datW (c : Int) (ps : Ps) : PyData := .tuple [.int c, .tuple (datP ps)]
theorem shapedW (c : Int) {ps : Ps} (h : ∀ q ∈ ps, isSym q.1 = true) : SeqAt.shaped (datW c ps) = true := by
  unfold SeqAt.shaped
  rw [Bool.and_eq_true]
  refine ⟨?_, decide_eq_true ?_⟩
  · show (true && (PyData.canLayAll0 (datP ps) && true)) = true
    rw [can_ps h]
    rfl
  · have h2 := depth_ps ps
    have h1 : PyData.depth (datW c ps) = PyData.depthAll (datP ps) + 1 + 1 := by simp [datW, PyData.depth, PyData.depthAll]
    omega
theorem eqvW (c : Int) {ps : Ps} (h : ∀ q ∈ ps, isSym q.1 = true) : PyData.eqv (datW c ps) (datW c ps) = true := SeqAt.eqv_refl _ (SeqAt.canLay_of_shaped (shapedW c h))
theorem eqv_nil (ps : Ps) : PyData.eqv (.list (datP ps)) (.list []) = ps.isEmpty := by
  cases ps <;> rfl
/-- a tuple (constant, pairs) in the heap -/
def WrAt (H : Hp) (x : V) (c : Int) (ps : Ps) : Prop := ∃ a b xs, x = .ref a ∧ H a = some (.tup [.int c, .ref b]) ∧ H b = some (.tup xs) ∧ Paired (PairAt H) xs ps
theorem WrAt.dp {K : PySem.W.Frag} {H : Hp} {x : V} {c : Int} {ps : Ps} (h : WrAt H x c ps) : Dp K H x (datW c ps) := by
  obtain ⟨a, b, xs, rfl, ha, hb, hp⟩ := h
  exact .tup (SqT.of ha) (.cons (.int _) (.cons (.tup (SqT.of hb) (dpAll_ps hp)) .nil))
theorem WrAt.same {H H' : Hp} {x : V} {c : Int} {ps : Ps} (h : WrAt H x c ps) (s : Same H H') : WrAt H' x c ps := by
  obtain ⟨a, b, xs, rfl, ha, hb, hp⟩ := h
  exact ⟨a, b, xs, rfl, s _ _ ha, s _ _ hb, paired_map (fun _ _ q => q.same s) hp⟩
theorem paired_len {α β : Type} {F : α → β → Prop} : ∀ {l : List α} {m : List β}, Paired F l m → l.length = m.length
  | _, _, .nil => rfl
  | _, _, .cons _ r => by rw [List.length_cons, List.length_cons, paired_len r]
theorem paired_at {α β : Type} {F : α → β → Prop} : ∀ {l : List α} {m : List β} {i : Nat} {x : α}, Paired F l m → l[i]? = some x → ∃ y, m[i]? = some y ∧ F x y
  | _, _, 0, _, .cons h r, e => by
    cases e
    exact ⟨_, rfl, h⟩
  | _, _, i + 1, _, .cons h r, e => by
    rw [List.getElem?_cons_succ] at e
    obtain ⟨y, e', h'⟩ := paired_at r e
    exact ⟨y, by rw [List.getElem?_cons_succ]; exact e', h'⟩
theorem paired_snoc {α β : Type} {F : α → β → Prop} {x : α} {y : β} (h : F x y) : ∀ {l : List α} {m : List β}, Paired F l m → Paired F (l ++ [x]) (m ++ [y])
  | _, _, .nil => .cons h .nil
  | _, _, .cons g r => .cons g (paired_snoc h r)
/-- one pair more -/
theorem pairs_push {H : Hp} {l t : Addr} {ps : Ps} {x : Str} {v : Int} (h : PairsAt H l ps) (ht : H t = none) :
    ∃ xs, (upd H t (.tup [.str x, .int v])) l = some (.lst xs) ∧ xs.length = ps.length ∧ PairsAt (upd (upd H t (.tup [.str x, .int v])) l (.lst (xs ++ [.ref t]))) l (ps ++ [(x, v)]) := by
  obtain ⟨xs, hx, hp⟩ := h
  have tl : t ≠ l := fun z => by rw [z, hx] at ht; cases ht
  refine ⟨xs, (upd_ne tl.symm).trans hx, paired_len hp, xs ++ [.ref t], upd_same, paired_snoc ⟨t, rfl, (upd_ne tl).trans upd_same⟩ (paired_map (fun y q hq => ?_) hp)⟩
  obtain ⟨u, rfl, hu⟩ := hq
  exact ⟨u, rfl, (upd_ne (ne_of hu hx (by intro z; cases z))).trans ((upd_ne (ne_of_none hu ht)).trans hu)⟩
theorem BagAt.upd {H : Hp} {b t : Addr} {n : Nat} {o : HO} (h : BagAt H b n) (ne : b ≠ t) : BagAt (L2.upd H t o) b n := by
  obtain ⟨d, m, k, h1, h2⟩ := h
  exact ⟨d, m, k, (upd_ne ne).trans h1, h2⟩
end Ow

set_option Elab.async false
set_option linter.all false
set_option maxRecDepth 100000
set_option maxHeartbeats 1000000
namespace Ow
open PySem PySem.Spec PyProof.Rows L2
structure DictAt (H : Hp) (d : Addr) (m : Ps) : Prop where
  at_ : H d = some (.dK (kvI m))
  nd : (m.map (·.1)).Nodup
  sym : ∀ q ∈ m, isSym q.1 = true
theorem DictAt.same {H H' : Hp} {d : Addr} {m : Ps} (h : DictAt H d m) (s : Same H H') : DictAt H' d m := ⟨s _ _ h.at_, h.nd, h.sym⟩
theorem DictAt.new {H : Hp} {d : Addr} : DictAt (upd H d (.dK [])) d [] := ⟨upd_same, List.nodup_nil, fun q h => (by cases h)⟩
theorem DictAt.put {H : Hp} {d : Addr} {m : Ps} (h : DictAt H d m) (x : Str) (v : Int) (hx : isSym x = true) : DictAt (upd H d (.dK (putK (kvI m) (Sum.inr x) (V.int v)))) d (putS m x v) :=
  ⟨by rw [upd_same, kvI_put x v h.nd], putS_nodup x v h.nd, putS_mem (P := fun s => isSym s = true) h.sym hx⟩
theorem same_new {H H' : Hp} {d : Addr} {o : HO} (s : Same H H') (h : H' d = none) : Same H (upd H' d o) := fun a u e => (upd_ne (ne_of_none (s a u e) h)).trans (s a u e)
theorem same_over {H H' : Hp} {d : Addr} {o : HO} (s : Same H H') (h : H d = none) : Same H (upd H' d o) := fun a u e => (upd_ne (ne_of_none e h)).trans (s a u e)
theorem same_trans {H H' H2 : Hp} (s : Same H H') (t : Same H' H2) : Same H H2 := fun a u e => t a u (s a u e)
def spSums : Sp := fun vs H Q _ => ∃ (l : Addr) (ps : Ps), vs = [.ref l] ∧ PairsAt H l ps ∧ OkPs ps ∧ ps.length < 32 ∧
  ∀ d m H', H d = none → DictAt H' d m → m.length ≤ ps.length → (∀ s, co m s = co ps s) → Same H H' → Q (.ref d) H'
def spWritten : Sp := fun vs H Q _ => ∃ (c : Int) (d : Addr) (m : Ps), vs = [.int c, .ref d] ∧ DictAt H d m ∧ m.length < 64 ∧
  ∀ x L H', WrAt H' x c L → Can L (co m) → (∀ q ∈ L, isSym q.1 = true) → Same H H' → Q x H'
def spBoth : Sp := fun vs H Q _ => ∃ (a b : Addr) (m1 m2 : Ps) (k : Int), vs = [.ref a, .ref b, .int k] ∧ DictAt H a m1 ∧ DictAt H b m2 ∧ m1.length < 30 ∧ m2.length < 30 ∧ (k = 1 ∨ k = -1) ∧
  ∀ d m H', H d = none → DictAt H' d m → m.length ≤ m1.length + m2.length → (∀ s, co m s = co m1 s + k * co m2 s) → Same H H' → Q (.ref d) H'
theorem co_snoc (a : Ps) (x : Str) (v : Int) (s : Str) : co (a ++ [(x, v)]) s = co a s + if s = x then v else 0 := by
  rw [co_append]
  show co a s + co [(x, v)] s = _
  congr 1
  show (if x = s then v else 0) + 0 = _
  by_cases e : s = x
  · rw [if_pos e, if_pos e.symm]
    omega
  · rw [if_neg e, if_neg fun z => e z.symm]
    omega
theorem take_snoc {ps : Ps} {i : Nat} {q : Str × Int} (h : ps[i]? = some q) : ps.take (i + 1) = ps.take i ++ [q] := by
  rw [List.take_add_one, h]
  rfl
theorem mergeK_kvI : ∀ (b a : Ps), ((a ++ b).map (·.1)).Nodup → mergeK (kvI a) (kvI b) = kvI (a ++ b)
  | [], a, _ => by rw [List.append_nil]; rfl
  | (x, v) :: b, a, h => by
    have hx : x ∉ a.map (·.1) := fun hx => by
      rw [List.map_append, List.nodup_append] at h
      exact h.2.2 x hx x (by simp) rfl
    have e : (a ++ (x, v) :: b) = (a ++ [(x, v)]) ++ b := by simp
    have ha : (a.map (·.1)).Nodup := by
      rw [List.map_append, List.nodup_append] at h
      exact h.1
    rw [e] at h ⊢
    rw [← mergeK_kvI b (a ++ [(x, v)]) h, ← putS_new a x v hx, ← kvI_put x v ha]
    rfl
theorem same_unlock {H H' : Hp} {b : Addr} {o : Obj} {u : HO} (hb : H b = some u) (s : Same (upd H b (.frz o u)) H') : Same H (upd H' b u) := fun a x e => by
  by_cases z : a = b
  · subst z
    rw [upd_same, ← hb, e]
  · rw [upd_ne z]
    exact s a x ((upd_ne z).trans e)
theorem dget_r {H : Hp} {d : Addr} {m : Ps} {y : Str} (r : Rd H d (.dK (kvI m))) (nd : (m.map (·.1)).Nodup) (hy : y ∈ m.map (·.1)) : DGet H d (.str y) (some (.int (co m y))) :=
  .inl ⟨kvI m, Sum.inr y, r, rfl, (kvI_get nd hy).symm⟩
/-! ### the pairs of symbols in order, without noughts -/
def canL (ys : List Str) (g : Str → Int) : Ps := (ys.map fun s => (s, g s)).filter fun q => decide (q.2 ≠ 0)
theorem canL_keys : ∀ (ys : List Str) (g : Str → Int), (canL ys g).map (·.1) = ys.filter fun s => decide (g s ≠ 0)
  | [], _ => rfl
  | y :: ys, g => by
    have ih := canL_keys ys g
    unfold canL at ih ⊢
    rw [List.map_cons, List.filter_cons, List.filter_cons]
    by_cases e : decide (g y ≠ 0) = true
    · rw [if_pos e, if_pos e, List.map_cons, ih]
    · rw [if_neg e, if_neg e, ih]
theorem canL_mem {ys : List Str} {g : Str → Int} {q : Str × Int} (h : q ∈ canL ys g) : q.1 ∈ ys ∧ q.2 = g q.1 ∧ q.2 ≠ 0 := by
  unfold canL at h
  obtain ⟨h1, h2⟩ := List.mem_filter.mp h
  obtain ⟨s, hs, rfl⟩ := List.mem_map.mp h1
  exact ⟨hs, rfl, of_decide_eq_true h2⟩
theorem canL_can {ys : List Str} {g : Str → Int} (h1 : ys.Pairwise LeS) (h2 : ys.Nodup) (h3 : ∀ s, g s ≠ 0 → s ∈ ys) : Can (canL ys g) g := by
  have nd : ((canL ys g).map (·.1)).Nodup := by
    rw [canL_keys]
    exact h2.sublist List.filter_sublist
  refine ⟨?_, nd, fun q hq => (canL_mem hq).2.2, fun s => ?_⟩
  · rw [canL_keys]
    exact h1.sublist List.filter_sublist
  · by_cases e : g s = 0
    · rw [e]
      refine co_out fun hs => ?_
      obtain ⟨q, hq, rfl⟩ := List.mem_map.mp hs
      have := canL_mem hq
      exact this.2.2 (this.2.1.trans e)
    · have hs : (s, g s) ∈ canL ys g := by
        unfold canL
        exact List.mem_filter.mpr ⟨List.mem_map.mpr ⟨s, h3 s e, rfl⟩, decide_eq_true e⟩
      exact co_in nd hs
theorem canL_take {ys : List Str} {g : Str → Int} {i : Nat} {y : Str} (h : ys[i]? = some y) : canL (ys.take (i + 1)) g = canL (ys.take i) g ++ if g y = 0 then [] else [(y, g y)] := by
  unfold canL
  rw [List.take_add_one, h, List.map_append, List.filter_append]
  congr 1
  by_cases e : g y = 0
  · rw [if_pos e]
    simp [e]
  · rw [if_neg e]
    simp [e]
theorem canL_len (ys : List Str) (g : Str → Int) : (canL ys g).length ≤ ys.length := by
  unfold canL
  exact Nat.le_trans (List.length_filter_le _ _) (by rw [List.length_map]; exact Nat.le_refl _)
theorem push_lc {H : Hp} {l t : Addr} {acc : List V} {L : Ps} {x : Str} {v : Int} (hx : H l = some (.lst acc)) (hp : Paired (PairAt H) acc L) (ht : H t = none) :
    upd H t (.tup [.str x, .int v]) l = some (.lst acc) ∧ Paired (PairAt (upd (upd H t (.tup [.str x, .int v])) l (.lst (acc ++ [.ref t])))) (acc ++ [.ref t]) (L ++ [(x, v)]) := by
  have tl : t ≠ l := fun z => by rw [z, hx] at ht; cases ht
  refine ⟨(upd_ne tl.symm).trans hx, paired_snoc ⟨t, rfl, (upd_ne tl).trans upd_same⟩ (paired_map (fun y q hq => ?_) hp)⟩
  obtain ⟨u, rfl, hu⟩ := hq
  exact ⟨u, rfl, (upd_ne (ne_of hu hx (by intro z; cases z))).trans ((upd_ne (ne_of_none hu ht)).trans hu)⟩
theorem kvI_at {m : Ps} {i : Nat} {k : Key} {v : V} (h : (kvI m)[i]? = some (k, v)) : ∃ q, m[i]? = some q ∧ k = Sum.inr q.1 ∧ v = .int q.2 := by
  unfold kvI at h
  rw [List.getElem?_map] at h
  cases e : m[i]? with
  | none => rw [e] at h; cases h
  | some q => rw [e] at h; cases h; exact ⟨q, rfl, rfl, rfl⟩
theorem pair_addr {H : Hp} : ∀ {acc : List V} {L : Ps}, Paired (PairAt H) acc L → ∃ ps : List Addr, acc = ps.map V.ref ∧ Paired (fun p (kv : Key × V) => H p = some (.tup [kV kv.1, kv.2])) ps (kvI L)
  | _, _, .nil => ⟨[], rfl, .nil⟩
  | _, _, .cons h r => by
    obtain ⟨t, rfl, ht⟩ := h
    obtain ⟨ps, rfl, hp⟩ := pair_addr r
    exact ⟨t :: ps, rfl, .cons ht hp⟩
theorem str_at {ys : List Str} {i : Nat} {x : V} (h : (ys.map V.str)[i]? = some x) : ∃ y, ys[i]? = some y ∧ x = .str y := by
  rw [List.getElem?_map] at h
  cases e : ys[i]? with
  | none => rw [e] at h; cases h
  | some y => rw [e] at h; exact ⟨y, rfl, (Option.some.inj h).symm⟩
theorem wr_new {H : Hp} {acc : List V} {L : Ps} {l x : Addr} {c : Int} (hp : Paired (PairAt H) acc L) (hl : H l = none) (hx : upd H l (.tup acc) x = none) : WrAt (upd (upd H l (.tup acc)) x (.tup [.int c, .ref l])) (.ref x) c L := by
  have ne : l ≠ x := fun z => by rw [z, upd_same] at hx; cases hx
  exact ⟨x, l, acc, rfl, upd_same, (upd_ne ne).trans upd_same, paired_map (fun _ _ q => q.same (same_new (same_new (fun _ _ e => e) hl) hx)) hp⟩
end Ow

set_option Elab.async false
set_option linter.all false
set_option maxRecDepth 100000
set_option maxHeartbeats 1000000
namespace Ow
open PySem PySem.Spec PyProof.Rows L2
section
variable {X : Cx} {x z : Str} {n : Int} {pos : Pos}
theorem pe_globS (hg : Gl X x) (hm : ∃ t, X.mg x = some (.str z t)) (hd : (x == ("__debug__" : Str)) = false := by decide) : PE X (.Name x pos) (tC (.str z)) := by
  obtain ⟨t, hm⟩ := hm
  exact pe_glob hg hm ⟨t, rfl⟩ hd
theorem pe_globI (hg : Gl X x) (hm : ∃ t, X.mg x = some (.int n t)) (hd : (x == ("__debug__" : Str)) = false := by decide) : PE X (.Name x pos) (tC (.int n)) := by
  obtain ⟨t, hm⟩ := hm
  exact pe_glob hg hm ⟨t, rfl⟩ hd
end
theorem starts1 (x : Str) (c : Nat) : Txt.startswith x ⟨#[c]⟩ = (x.cps.toList.head? == some c) := by
  obtain ⟨⟨l⟩⟩ := x
  cases l with
  | nil => rfl
  | cons a l =>
    unfold Txt.startswith Builtin.Str.subAt
    have h1 : (⟨⟨a :: l⟩⟩ : Str).length = l.length + 1 := rfl
    have h2 : (⟨#[c]⟩ : Str).length = 1 := rfl
    rw [h1, h2]
    simp
theorem tail1 (x : Str) : cutS x (some 1) none = ⟨(x.cps.toList.drop 1).toArray⟩ := by
  obtain ⟨⟨l⟩⟩ := x
  unfold cutS
  have h1 : (⟨⟨l⟩⟩ : Str).length = l.length := rfl
  rw [h1, HT.sIx_none, show (1 : Int) = ((1 : Nat) : Int) from rfl, HT.sIx_nat]
  cases l with
  | nil => rfl
  | cons a l =>
    have : min 1 (a :: l).length = 1 := by simp
    rw [this]
    simp
def abcL : Str := "abcdefghijklmnopqrstuvwxyz"
def digL : Str := "0123456789"
theorem abc_list : abcL.cps.toList = List.range' 97 26 := by decide +kernel
theorem dig_list : digL.cps.toList = List.range' 48 10 := by decide +kernel
theorem abc_mem (c : Nat) : decide (c ∈ abcL.cps.toList) = (decide (97 ≤ c) && decide (c ≤ 122)) := by
  rw [abc_list, Bool.eq_iff_iff]
  simp only [decide_eq_true_eq, Bool.and_eq_true, List.mem_range'_1]
  omega
theorem dig_mem (c : Nat) : decide (c ∈ digL.cps.toList) = (decide (48 ≤ c) && decide (c ≤ 57)) := by
  rw [dig_list, Bool.eq_iff_iff]
  simp only [decide_eq_true_eq, Bool.and_eq_true, List.mem_range'_1]
  omega
theorem isRc_eq (l : List Nat) : isRc l = ((l.head? == some 114) && (decide (1 ≤ (l.drop 1).length) && (decide ((l.drop 1).length ≤ 60) && (((l.drop 1).all fun c => decide (48 ≤ c) && decide (c ≤ 57)) && ((l.drop 1) == [48] || (l.drop 1).head? != some 48))))) := by
  unfold isRc
  split
  · rfl
  · rename_i h
    cases l with
    | nil => rfl
    | cons a l =>
      have : ¬ a = 114 := fun z => h l (by rw [z])
      show false = ((some a == some 114) && _)
      have e : (some a == some 114) = false := by simp [this]
      rw [e]
      rfl
theorem str_eq_of {x y : Str} (h : x.cps.toList = y.cps.toList) : x = y := by
  obtain ⟨⟨l⟩⟩ := x
  obtain ⟨⟨l'⟩⟩ := y
  cases (show l = l' from h)
  rfl
def spIsL : Sp := fun vs H Q _ => ∃ x : Str, vs = [.str x] ∧ x.length ≤ sizeLine ∧ ∀ H', Same H H' → Q (.bl (isLc x.cps.toList)) H'
def spIsR : Sp := fun vs H Q _ => ∃ x : Str, vs = [.str x] ∧ x.length ≤ sizeLine ∧ ∀ H', Same H H' → Q (.bl (isRc x.cps.toList)) H'
def spIsS : Sp := fun vs H Q _ => ∃ x : Str, vs = [.str x] ∧ x.length ≤ sizeLine ∧ ∀ H', Same H H' → Q (.bl (isSym x)) H'
end Ow

set_option Elab.async false
set_option linter.all false
set_option maxRecDepth 100000
set_option maxHeartbeats 4000000
namespace Ow
open PySem PySem.Spec PyProof.Rows L2
def top (i : Nat) : Stmt := PySem.Challenge.pw_owedanswers_k09_whole_least_and_greatest.main.body.getD i (.Pass ⟨0, 0, 0, 0⟩)
structure Txt (mg : Str → Option Value) : Prop where
  n_len : mg "len" = none
  n_abs : mg "abs" = none
  n_int : mg "int" = none
  n_str : mg "str" = none
  n_min : mg "min" = none
  n_max : mg "max" = none
  n_all : mg "all" = none
  n_range : mg "range" = none
  n_sorted : mg "sorted" = none
  n_list : mg "list" = none
  n_tuple : mg "tuple" = none
  n_dict : mg "dict" = none
  n_isinstance : mg "isinstance" = none
  n_sum : mg "sum" = none
  mg_LETTERS : ∃ t, mg "LETTERS" = some (.str "abcdefghijklmnopqrstuvwxyz" t)
  mg_DIGITS : ∃ t, mg "DIGITS" = some (.str "0123456789" t)
  mg_MOST_LETTERS : ∃ t, mg "MOST_LETTERS" = some (.int 3 t)
  mg_MOST_DIGITS : ∃ t, mg "MOST_DIGITS" = some (.int 60 t)
local macro_rules | `(tactic| walk_at "rd") => `(tactic| repeat (first | (refine ⟨_, rfl, ?_⟩) | (refine ⟨_, _, rfl, rfl, ?_⟩) | (refine Or.inl ⟨_, rfl, ?_⟩) | (refine ⟨(by first | (show (0 : Int) < (_ : Int); decide) | exact Or.inl ⟨by decide, by decide⟩ | exact Or.inr ⟨by decide, by decide⟩ | exact ⟨by decide, by decide⟩ | exact ⟨by decide, by decide, by decide⟩), ?_⟩)))
section
variable {P : Program} {w : World} {K : PySem.W.Frag} {mg : Str → Option Value} {base : Heap}
abbrev s_law_bag : Stmt := top 25
theorem sc_law_bag : FnScope ["script", "at", "cell", "digits"] ["script", "at"] (defScope s_law_bag) := ⟨rfl, rfl, rfl, by decide +kernel, rfl, by decide +kernel, by decide +kernel⟩
theorem ok_bag {f : Addr} {fd : FuncData} (F : Fun K "_law_bag" "_law_bag" s_law_bag f fd) (T : Txt mg) : FnOk P w K mg base CX0 1 f fd ["script", "at"] (spBag K) := by
  refine F.ok sc_law_bag (fun vs H Q E h => ?_) (fun cdv A outer s H vs Q E hr h => ?_)
  · obtain ⟨a, ns, j, rfl, _⟩ := h
    rfl
  · obtain ⟨a, ns, j, rfl, hS, hl, hj, k⟩ := h
    have hu := hu_of hr
    refine ⟨_, (pss_cons (ps_set (i := 2) sc_law_bag.nd rfl (Or.inl rfl) (pe_ifExp (pt_cmpR op_lt (pv 1) (pe_callB call_len_seq (by rfl) T.n_len (by decide +kernel) (pa_cons (pv 0) pa_nil)) (nomark _)) (pe_ix ix_list (pv 0) (pv 1) (fun _ _ => rfl)) pe_int))
      (pss_cons (ps_set (i := 3) sc_law_bag.nd rfl (Or.inl rfl) (pe_ifExp (pt_cmpR op_ge (pe_callB call_abs (by rfl) T.n_abs (by decide +kernel) (pa_cons (pv 2) pa_nil)) (pe_op op_pow pe_int pe_int) (nomark _)) (pe_callB call_abs (by rfl) T.n_abs (by decide +kernel) (pa_cons (pv 2) pa_nil)) pe_int))
      (pss_one (ps_ret (pe_lst (pa_cons (pv 3) (pa_cons (pe_op op_add (pe_op op_add (pe_op op_mul (pe_op op_mod (pe_callTy call_int1 (by rfl) T.n_int (by decide +kernel) (pa_cons (pv 2) pa_nil)) pe_int) pe_int) (pe_op op_mul pe_int (pv 1))) pe_int) (pa_cons pe_int pa_nil)))))))), ?_⟩
    refine ⟨_, rfl, _, rfl, a, _, rfl, .inl hS, _, _, rfl, rfl, _, rfl, ?_⟩
    refine ite2 (fun h => ?_) (fun h => ?_)
    · have hj' : j < ns.length := by
        have h := of_decide_eq_true h
        rw [List.length_map] at h
        omega
      refine ⟨_, rfl, _, rfl, a, _, _, _, rfl, rfl, hS, atI_nat (j := j) (v := .int ns[j]) (by rw [List.getElem?_map, List.getElem?_eq_getElem hj']; rfl), ?_⟩
      generalize ns[j] = cell
      walk_at "rd"
      refine ite2 (fun h => ?_) (fun h => ?_)
      all_goals
        walk_at "rd"
        refine ⟨by show 3 ≤ sizeLine; decide, fun b hb => k b _ hb ⟨_, _, _, upd_same, ?_, ?_, Int.le_refl 0, Int.le_refl 0⟩ fun a o e => (upd_ne (ne_of_none e hb)).trans e⟩
        · have := Int.emod_nonneg cell (show (2305843009213693951 : Int) ≠ 0 by decide)
          omega
        · have := Int.emod_lt_of_pos cell (show (0 : Int) < 2305843009213693951 by decide)
          omega
    · walk_at "rd"
      refine ⟨by show 3 ≤ sizeLine; decide, fun b hb => k b _ hb ⟨_, _, _, upd_same, ?_, ?_, Int.le_refl 0, Int.le_refl 0⟩ fun a o e => (upd_ne (ne_of_none e hb)).trans e⟩
      · omega
      · omega
abbrev s_law_take : Stmt := top 26
theorem sc_law_take : FnScope ["bag", "many", "mixed", "digit"] ["bag", "many"] (defScope s_law_take) := ⟨rfl, rfl, rfl, by decide +kernel, rfl, by decide +kernel, by decide +kernel⟩
theorem ok_take {f : Addr} {fd : FuncData} (F : Fun K "_law_take" "_law_take" s_law_take f fd) (T : Txt mg) : FnOk P w K mg base CX0 1 f fd ["bag", "many"] spTake := by
  refine F.ok sc_law_take (fun vs H Q E h => ?_) (fun cdv A outer s H vs Q E hr h => ?_)
  · obtain ⟨b, n, many, rfl, _⟩ := h
    rfl
  · obtain ⟨b, n, many, rfl, ⟨d, m, c, hb, h1, h2, h3, h4⟩, hn, hm, hz, k⟩ := h
    have hu := hu_of hr
    refine ⟨_, (pss_cons (ps_if (pt_cmpR op_gt (pe_ix ix_list (pv 0) pe_int (fun _ _ => rfl)) pe_int (nomark _)) (pss_cons (ps_set (i := 3) sc_law_take.nd rfl (Or.inl rfl) (pe_op op_mod (pe_callTy call_int1 (by rfl) T.n_int (by decide +kernel) (pa_cons (pe_ix ix_list (pv 0) pe_int (fun _ _ => rfl)) pa_nil)) (pv 1)))
      (pss_cons (ps_asg (pe_op op_fdivW (pe_ix ix_list (pv 0) pe_int (fun _ _ => rfl)) (pv 1)) (pg_sub (pv 0) pe_int set_list))
      (pss_one (ps_ret (pv 3))))) pss_nil)
      (pss_cons (ps_asg (pe_op op_add (pe_ix ix_list (pv 0) pe_int (fun _ _ => rfl)) pe_int) (pg_sub (pv 0) pe_int set_list))
      (pss_cons (ps_set (i := 2) sc_law_take.nd rfl (Or.inl rfl) (pe_op op_mod (pe_callTy call_int1 (by rfl) T.n_int (by decide +kernel) (pa_cons (pe_op op_pow (pe_op op_add (pe_ix ix_list (pv 0) pe_int (fun _ _ => rfl)) (pe_op op_mul pe_int (pe_ix ix_list (pv 0) pe_int (fun _ _ => rfl)))) pe_int) pa_nil)) pe_int))
      (pss_cons (ps_set (i := 2) sc_law_take.nd rfl (Or.inl rfl) (pe_op op_mod (pe_callTy call_int1 (by rfl) T.n_int (by decide +kernel) (pa_cons (pe_op op_pow (pe_op op_add (pv 2) (pe_op op_mul pe_int (pe_ix ix_list (pv 0) pe_int (fun _ _ => rfl)))) pe_int) pa_nil)) pe_int))
      (pss_one (ps_ret (pe_op op_mod (pe_callTy call_int1 (by rfl) T.n_int (by decide +kernel) (pa_cons (pe_op op_fdiv (pv 2) pe_int) pa_nil)) (pv 1)))))))), ?_⟩
    have hS : SqL K H b [.int d, .int m, .int c] := SqL.of hb
    refine ⟨_, rfl, b, _, 0, _, rfl, rfl, hS, ix0, ?_⟩
    walk_at "rd"
    refine ite2 (fun h => ?_) (fun h => ?_)
    · refine ⟨_, rfl, b, _, 0, _, rfl, rfl, hS, ix0, ?_⟩
      walk_at "rd"
      refine ⟨hm, ?_⟩
      refine ⟨_, rfl, b, _, 0, _, rfl, rfl, hS, ix0, ?_⟩
      walk_at "rd"
      refine ⟨wide_div hm hz (by decide) (by decide), ?_⟩
      walk_at "rd"
      refine ⟨b, _, 0, 0, rfl, rfl, hb, rfl, ?_⟩
      walk_at "rd"
      exact k _ _ (Int.emod_nonneg _ (Int.ne_of_gt hm)) (Int.emod_lt_of_pos _ hm) ⟨_, _, _, upd_same, h1, h2, h3, by omega⟩ (Stay.upd (Stay.refl b H))
    · refine ⟨_, rfl, b, _, 2, _, rfl, rfl, hS, ix2, ?_⟩
      walk_at "rd"
      refine ⟨b, _, 2, 2, rfl, rfl, hb, rfl, ?_⟩
      have hS2 : SqL K (upd H b (.lst [.int d, .int m, .int (c + 1)])) b [.int d, .int m, .int (c + 1)] := SqL.of upd_same
      refine ⟨_, rfl, b, _, 1, _, rfl, rfl, hS2, ix1, ?_⟩
      walk_at "rd"
      refine ⟨b, _, 2, _, rfl, rfl, hS2, ix2, ?_⟩
      walk_at "rd"
      refine ⟨⟨by decide, by decide, by show _ < 18446744073709551616; omega⟩, ?_⟩
      walk_at "rd"
      refine ⟨b, _, 2, _, rfl, rfl, hS2, ix2, ?_⟩
      walk_at "rd"
      have a1 := Int.emod_nonneg ((m + 15485863 * (c + 1)) ^ (3 : Int).toNat) (show (2305843009213693921 : Int) ≠ 0 by decide)
      have a2 := Int.emod_lt_of_pos ((m + 15485863 * (c + 1)) ^ (3 : Int).toNat) (show (0 : Int) < 2305843009213693921 by decide)
      refine ⟨⟨by decide, by decide, ?_⟩, ?_⟩
      · show _ < 18446744073709551616
        omega
      walk_at "rd"
      refine ⟨hm, ?_⟩
      exact k _ _ (Int.emod_nonneg _ (Int.ne_of_gt hm)) (Int.emod_lt_of_pos _ hm) ⟨_, _, _, upd_same, h1, h2, by show 0 ≤ c + 1; omega, by show c + 1 ≤ _; omega⟩ (Stay.upd (Stay.refl b H))
end
end Ow

set_option Elab.async false
set_option linter.all false
set_option maxRecDepth 100000
set_option maxHeartbeats 4000000
namespace Ow
open PySem PySem.Spec PyProof.Rows L2
local macro_rules | `(tactic| walk_at "rd") => `(tactic| repeat (first | (refine ⟨_, rfl, ?_⟩) | (refine ⟨_, _, rfl, rfl, ?_⟩) | (refine ⟨rfl, ?_⟩) | (refine ⟨_, _, rfl, ?_⟩) | (refine Or.inl ⟨_, rfl, ?_⟩) | (refine ⟨(by first | (show (0 : Int) < (_ : Int); decide) | exact Or.inl ⟨by decide, by decide⟩ | exact Or.inr ⟨by decide, by decide⟩ | exact ⟨by decide, by decide⟩ | exact ⟨by decide, by decide, by decide⟩), ?_⟩)))
section
variable {P : Program} {w : World} {K : PySem.W.Frag} {mg : Str → Option Value} {base : Heap}
abbrev s_is_list_name : Stmt := top 14
theorem sc_is_list_name : FnScope ["text", "letter"] ["text"] (defScope s_is_list_name) := ⟨rfl, rfl, rfl, by decide +kernel, rfl, by decide +kernel, by decide +kernel⟩
theorem ok_isl {f : Addr} {fd : FuncData} (F : Fun K "is_list_name" "is_list_name" s_is_list_name f fd) (T : Txt mg) : FnOk P w K mg base CX0 1 f fd ["text"] spIsL := by
  refine F.ok sc_is_list_name (fun vs H Q E h => ?_) (fun cdv A outer s H vs Q E hr h => ?_)
  · obtain ⟨x, rfl, _⟩ := h
    rfl
  · obtain ⟨x, rfl, hx, k⟩ := h
    have hu := hu_of hr
    refine ⟨_, (pss_one (ps_ret (pe_and (pe_chain op_le op_le pe_int (pe_callB call_len_str (by rfl) T.n_len (by decide +kernel) (pa_cons (pv 0) pa_nil)) (pe_globI rfl T.mg_MOST_LETTERS)) (pe_one (pe_callB (cr_all rfl) (by rfl) T.n_all (by decide +kernel) (pa_cons (pe_lc (own := [("letter", 1)]) (g := gName 1) (by rfl) sc_is_list_name.nd (pi_str (pv 0)) (blkOk_by (own := [("letter", 1)]) (N := ["text", "letter"]) (sc := defScope s_is_list_name) (by decide +kernel)) (fun _ _ _ _ _ => (pg_name (i := 1) sc_is_list_name.nd rfl (Or.inl rfl))) (fun _ _ _ _ _ => pts_nil) (fun _ _ _ _ _ => (pe_cmpR op_in_sign (pv 1) (pe_globS rfl T.mg_LETTERS) rfl))) pa_nil)))))), ?_⟩
    walk_at "rd"
    have hlen : x.length = x.cps.toList.length := (Array.length_toList).symm
    refine ⟨hx, ?_⟩
    walk_at "rd"
    refine ite2 (fun h1 => ?_) (fun h1 => ?_)
    · walk_at "rd"
      refine ite2 (fun h2 => ?_) (fun h2 => ?_)
      · walk_at "rd"
        have h3 : decide (1 ≤ x.cps.toList.length) = true := decide_eq_true (by have := of_decide_eq_true h1; omega)
        have h4 : decide (x.cps.toList.length ≤ 3) = true := decide_eq_true (by have := of_decide_eq_true h2; omega)
        refine fun D hD => lc_it walk_str (fun i H' => H' D = some (.lst (((x.cps.toList.take i).map fun c => decide (97 ≤ c) && decide (c ≤ 122)).map V.bl)) ∧ Same H H') ⟨upd_same, same_new (fun _ _ e => e) hD⟩ (fun _ _ _ _ => True.intro) ?_ ?_
        · rintro i v _ H' hi ⟨hl, S5⟩ ⟨rfl, c, hc, rfl⟩
          rw [← Array.getElem?_toList] at hc
          refine ⟨rfl, ?_⟩
          walk_at "rd"
          refine ⟨_, hl, ?_, ?_, same_over S5 hD⟩
          · rw [List.length_map, List.length_map, List.length_take]
            have h4' := of_decide_eq_true h4
            exact Nat.lt_of_lt_of_le (m := 4) (by omega) (by decide)
          · rw [upd_same, List.take_add_one, hc, List.map_append, List.map_append]
            have := abc_mem c
            unfold abcL at this
            rw [this]
            rfl
        · rintro H' ⟨hl, S5⟩
          refine ⟨D, _, rfl, SqL.of hl, ?_⟩
          have e : List.all ((x.cps.toList.take x.cps.size).map fun c => decide (97 ≤ c) && decide (c ≤ 122)) id = isLc x.cps.toList := by
            unfold isLc
            rw [h3, h4, ← Array.length_toList, List.take_length, List.all_map]
            rfl
          rw [e]
          exact k _ S5
      · have e : isLc x.cps.toList = false := by
          unfold isLc
          have : ¬ x.cps.toList.length ≤ 3 := fun z => h2 (decide_eq_true (by omega))
          rw [decide_eq_false this]
          simp
        have := k _ (fun _ _ e => e)
        rw [e] at this
        exact this
    · have e : isLc x.cps.toList = false := by
        unfold isLc
        have : ¬ 1 ≤ x.cps.toList.length := fun z => h1 (decide_eq_true (by omega))
        rw [decide_eq_false this]
        rfl
      have := k _ (fun _ _ e => e)
      rw [e] at this
      exact ⟨_, rfl, this⟩
abbrev s_is_round_symbol : Stmt := top 15
theorem sc_is_round_symbol : FnScope ["text", "number", "digit"] ["text"] (defScope s_is_round_symbol) := ⟨rfl, rfl, rfl, by decide +kernel, rfl, by decide +kernel, by decide +kernel⟩
theorem ok_isr {f : Addr} {fd : FuncData} (F : Fun K "is_round_symbol" "is_round_symbol" s_is_round_symbol f fd) (T : Txt mg) : FnOk P w K mg base CX0 1 f fd ["text"] spIsR := by
  refine F.ok sc_is_round_symbol (fun vs H Q E h => ?_) (fun cdv A outer s H vs Q E hr h => ?_)
  · obtain ⟨x, rfl, _⟩ := h
    rfl
  · obtain ⟨x, rfl, hx, k⟩ := h
    have hu := hu_of hr
    refine ⟨_, (pss_cons (ps_set (i := 1) sc_is_round_symbol.nd rfl (Or.inl rfl) (pe_slice sl_str (pv 0) (po_some pe_int) po_none))
      (pss_cons (ps_if (PW.pt (pw_or (pt_not (pt_val (pe_m1 PySem.F.slot_str_startswith PySem.F.type_str_startswith mt_startswith (pv 0) pe_str))) (pw_or1 (pt_not (pt_chain op_le op_le pe_int (pe_callB call_len_str (by rfl) T.n_len (by decide +kernel) (pa_cons (pv 1) pa_nil)) (pe_globI rfl T.mg_MOST_DIGITS)))))) (pss_one (ps_ret pe_bl)) pss_nil)
      (pss_cons (ps_if (PW.pt (pw_and (pt_val (pe_m1 PySem.F.slot_str_startswith PySem.F.type_str_startswith mt_startswith (pv 1) pe_str)) (pw_and1 (pt_cmpR op_ne (pv 1) pe_str (nomark _))))) (pss_one (ps_ret pe_bl)) pss_nil)
      (pss_one (ps_ret (pe_callB (cr_all rfl) (by rfl) T.n_all (by decide +kernel) (pa_cons (pe_lc (own := [("digit", 2)]) (g := gName 2) (by rfl) sc_is_round_symbol.nd (pi_str (pv 1)) (blkOk_by (own := [("digit", 2)]) (N := ["text", "number", "digit"]) (sc := defScope s_is_round_symbol) (by decide +kernel)) (fun _ _ _ _ _ => (pg_name (i := 2) sc_is_round_symbol.nd rfl (Or.inl rfl))) (fun _ _ _ _ _ => pts_nil) (fun _ _ _ _ _ => (pe_cmpR op_in_sign (pv 2) (pe_globS rfl T.mg_DIGITS) rfl))) pa_nil))))))), ?_⟩
    walk_at "rd"
    refine ⟨hx, ?_⟩
    rw [tail1]
    obtain ⟨z, hz, hzz⟩ : ∃ z : Str, (⟨(x.cps.toList.drop 1).toArray⟩ : Str) = z ∧ z.cps.toList = x.cps.toList.drop 1 := ⟨_, rfl, List.toList_toArray⟩
    rw [hz]
    have hlen : z.length = z.cps.toList.length := (Array.length_toList).symm
    have hlx : x.length = x.cps.toList.length := (Array.length_toList).symm
    have hzl : z.length ≤ sizeLine := by
      rw [hlen, hzz, List.length_drop]
      omega
    have er : Str.ofString "r" = ⟨#[114]⟩ := by decide +kernel
    have e0 : Str.ofString "0" = ⟨#[48]⟩ := by decide +kernel
    have no : isRc x.cps.toList = false → Q (.bl false) H := fun e => by
      have := k _ (fun _ _ e => e)
      rw [e] at this
      exact this
    have eq := isRc_eq x.cps.toList
    rw [← hzz] at eq
    walk_at "rd"
    refine ⟨⟨_, rfl⟩, ?_⟩
    walk_at "rd"
    rw [er, starts1]
    refine ite2 (fun h => ?_) (fun h => ?_)
    · have h1 : (x.cps.toList.head? == some 114) = false := by simpa using h
      walk_at "rd"
      exact no (by rw [eq, h1]; rfl)
    · have h1 : (x.cps.toList.head? == some 114) = true := by simpa using h
      walk_at "rd"
      refine ⟨hzl, ?_⟩
      walk_at "rd"
      refine ite2 (fun h => ?_) (fun h => ?_)
      · have h2 : decide (1 ≤ z.cps.toList.length) = true := decide_eq_true (by have := of_decide_eq_true h; omega)
        walk_at "rd"
        refine ite2 (fun h => ?_) (fun h => ?_)
        · have h3 : decide (z.cps.toList.length ≤ 60) = false := by
            have : ¬ ((z.length : Nat) : Int) ≤ 60 := by simpa using h
            exact decide_eq_false (by omega)
          walk_at "rd"
          exact no (by rw [eq, h1, h2, h3]; rfl)
        · have h3 : decide (z.cps.toList.length ≤ 60) = true := by
            have : ((z.length : Nat) : Int) ≤ 60 := by simpa using h
            exact decide_eq_true (by omega)
          rw [h1, h2, h3] at eq
          have fin : (z.cps.toList == [48] || z.cps.toList.head? != some 48) = true → isRc x.cps.toList = (z.cps.toList.all fun c => decide (48 ≤ c) && decide (c ≤ 57)) := fun e => by
            rw [eq, e]
            simp
          walk_at "rd"
          refine ⟨⟨_, rfl⟩, ?_⟩
          walk_at "rd"
          rw [e0, starts1]
          refine ite2 (fun h => ?_) (fun h => ?_)
          · walk_at "rd"
            refine ite2 (fun h' => ?_) (fun h' => ?_)
            · have hne : (z.cps.toList == [48]) = false := by
                refine beq_eq_false_iff_ne.mpr fun y => ?_
                have : z = ⟨#[48]⟩ := str_eq_of y
                rw [this] at h'
                revert h'
                decide
              walk_at "rd"
              refine no ?_
              rw [eq, hne]
              have : (z.cps.toList.head? != some 48) = false := by
                rw [bne, h]
                rfl
              rw [this]
              simp
            · have hy : z = ⟨#[48]⟩ := by simpa using h'
              have eqq := fin (by rw [hy]; rfl)
              walk_at "rd"
              refine fun D hD => lc_it walk_str (fun i H' => H' D = some (.lst (((z.cps.toList.take i).map fun c => decide (48 ≤ c) && decide (c ≤ 57)).map V.bl)) ∧ Same H H') ⟨upd_same, same_new (fun _ _ e => e) hD⟩ (fun _ _ _ _ => True.intro) ?_ ?_
              · rintro i v _ H' hi ⟨hl, S5⟩ ⟨rfl, c, hc, rfl⟩
                rw [← Array.getElem?_toList] at hc
                refine ⟨rfl, ?_⟩
                walk_at "rd"
                refine ⟨_, hl, ?_, ?_, same_over S5 hD⟩
                · rw [List.length_map, List.length_map, List.length_take]
                  have h3' := of_decide_eq_true h3
                  exact Nat.lt_of_lt_of_le (m := 61) (by omega) (by decide)
                · rw [upd_same, List.take_add_one, hc, List.map_append, List.map_append]
                  have := dig_mem c
                  unfold digL at this
                  rw [this]
                  rfl
              · rintro H' ⟨hl, S5⟩
                refine ⟨D, _, rfl, SqL.of hl, ?_⟩
                have e : List.all ((z.cps.toList.take z.cps.size).map fun c => decide (48 ≤ c) && decide (c ≤ 57)) id = isRc x.cps.toList := by
                  rw [eqq, ← Array.length_toList, List.take_length, List.all_map]
                  rfl
                rw [e]
                exact k _ S5
          · have eqq := fin (by rw [bne, Bool.eq_false_iff.mpr h]; simp)
            walk_at "rd"
            refine fun D hD => lc_it walk_str (fun i H' => H' D = some (.lst (((z.cps.toList.take i).map fun c => decide (48 ≤ c) && decide (c ≤ 57)).map V.bl)) ∧ Same H H') ⟨upd_same, same_new (fun _ _ e => e) hD⟩ (fun _ _ _ _ => True.intro) ?_ ?_
            · rintro i v _ H' hi ⟨hl, S5⟩ ⟨rfl, c, hc, rfl⟩
              rw [← Array.getElem?_toList] at hc
              refine ⟨rfl, ?_⟩
              walk_at "rd"
              refine ⟨_, hl, ?_, ?_, same_over S5 hD⟩
              · rw [List.length_map, List.length_map, List.length_take]
                have h3' := of_decide_eq_true h3
                exact Nat.lt_of_lt_of_le (m := 61) (by omega) (by decide)
              · rw [upd_same, List.take_add_one, hc, List.map_append, List.map_append]
                have := dig_mem c
                unfold digL at this
                rw [this]
                rfl
            · rintro H' ⟨hl, S5⟩
              refine ⟨D, _, rfl, SqL.of hl, ?_⟩
              have e : List.all ((z.cps.toList.take z.cps.size).map fun c => decide (48 ≤ c) && decide (c ≤ 57)) id = isRc x.cps.toList := by
                rw [eqq, ← Array.length_toList, List.take_length, List.all_map]
                rfl
              rw [e]
              exact k _ S5
      · have h2 : decide (1 ≤ z.cps.toList.length) = false := decide_eq_false fun y => h (decide_eq_true (by omega))
        walk_at "rd"
        exact no (by rw [eq, h1, h2]; rfl)
abbrev s_is_symbol : Stmt := top 16
theorem sc_is_symbol : FnScope ["text"] ["text"] (defScope s_is_symbol) := ⟨rfl, rfl, rfl, by decide +kernel, rfl, by decide +kernel, by decide +kernel⟩
theorem ok_iss {f : Addr} {fd : FuncData} (F : Fun K "is_symbol" "is_symbol" s_is_symbol f fd) (T : Txt mg) (c_isl : Cal P w K mg base "is_list_name" 1 spIsL) (c_isr : Cal P w K mg base "is_round_symbol" 1 spIsR) : FnOk P w K mg base CX0 2 f fd ["text"] spIsS := by
  refine F.ok sc_is_symbol (fun vs H Q E h => ?_) (fun cdv A outer s H vs Q E hr h => ?_)
  · obtain ⟨x, rfl, _⟩ := h
    rfl
  · obtain ⟨x, rfl, hx, k⟩ := h
    have hu := hu_of hr
    refine ⟨_, (pss_one (ps_ret (pe_or (pe_cal c_isl (hr.mono (by decide)) (pa_cons (pv 0) pa_nil)) (pe_one (pe_cal c_isr (hr.mono (by decide)) (pa_cons (pv 0) pa_nil)))))), ?_⟩
    walk_at "rd"
    refine ⟨hx, fun H1 S1 => ?_⟩
    walk_at "rd"
    refine ite2 (fun h => ?_) (fun h => ?_)
    · have := k H1 S1
      unfold isSym at this
      rw [h, Bool.true_or] at this
      exact this
    · walk_at "rd"
      refine ⟨hx, fun H2 S2 => ?_⟩
      have := k H2 (same_trans S1 S2)
      unfold isSym at this
      rw [Bool.eq_false_iff.mpr h, Bool.false_or] at this
      exact this
end
end Ow

set_option Elab.async false
set_option linter.all false
set_option maxRecDepth 100000
set_option maxHeartbeats 1000000
namespace Ow
open PySem PySem.Spec PyProof.Rows L2
/-- a classmethod of the class at C, with its promise -/
structure CalC (P : Program) (w : World) (K : PySem.W.Frag) (mg : Str → Option Value) (base : Heap) (C : Addr) (m : Str) (k : Nat) (sp : Sp) : Prop where
  ex : ∃ (mc : Value) (p g : Addr), ClX.CRead K C mc ∧ ClX.CMet K C mc m p g ∧ FnR P w K mg base CX0 k g sp
section
variable {X : Cx} {k : Nat} {sp : Sp} {x m : Str} {e o : Expr} {es : List Expr} {t : TA} {te : TE} {p pos apos : Pos} {C : Addr}
theorem pe_calC {pl : Sem Bool} (c : CalC X.prog X.w X.K X.mg X.base C m k sp) (hr : Room k X.A) (ho : PE X o te) (ha : PA X (e :: es) t)
    (hst : starEach (e :: es) X.env = (false, eval e X.env) :: starEach es X.env := by rfl) (hpl : (backTo pos (starEach es X.env)).any (·.1) = false := by rfl)
    (ht : eval (.Call (.Attribute o m apos) (e :: es) [] pos) X.env = (do
      let ov ← eval o X.env
      standAt apos.atName
      let (f, first) ← holding [ov] (getMethod ov m pl)
      callWith pos f first (backTo pos (starEach (e :: es) X.env)) (backToKw pos (keywordEach [] X.env))) := by rfl) :
    PE X (.Call (.Attribute o m apos) (e :: es) [] pos) (ClX.tCMeth C sp E0 te t) := by
  obtain ⟨mc, q, g, r, cm, F⟩ := c.ex
  exact ClX.pe_cmeth ho r cm F hr pass0 ha hst hpl ht
end
/-- a dict comprehension over a walk -/
theorem dc_it {J : It} {n : Nat} {G : Hp → Prop} {Y : Nat → Hp → V → Hp → Prop} (w : Walk J n G Y) {g : TG} {tt : TT} {tk tv : TE} {vs : List Nat} {σ : L2.St} {H1 : Hp} {D : Addr} {Qd : Hp → Prop} (Pv : Nat → Hp → Prop) (h0 : Pv 0 (upd H1 D (.dK []))) (hG : ∀ i H, i ≤ n → Pv i H → G H)
    (hs : ∀ i x H H', i < n → Pv i H → Y i H x H' → g x (wipe σ vs) H' fun σ2 H2 => wipe σ2 vs = wipe σ vs ∧ tt σ2 H2 fun b H3 =>
      if b = true then tk σ2 H3 fun y H4 => tv σ2 H4 fun z H5 => ∃ kvs k, y = kV k ∧ H5 D = some (.dK kvs) ∧ kvs.length < sizeLine ∧ Pv (i + 1) (upd H5 D (.dK (putK kvs k z))) else Pv (i + 1) H3) (hd : ∀ H, Pv n H → Qd H) :
    ∃ W : Nat → Nat → Hp → Prop, (∃ m, W 0 m (upd H1 D (.dK []))) ∧ ∀ i m H, W i m H →
      (J.stop i H ∧ Qd H) ∨ (J.go i H ∧ ∃ Nx : Hp → Prop, (∀ H', Nx H' → ∃ m', m' < m ∧ W (i + 1) m' H') ∧ ∀ x H', J.yld i H x H' → g x (wipe σ vs) H' fun σ2 H2 => wipe σ2 vs = wipe σ vs ∧ tt σ2 H2 fun b H3 =>
        if b = true then tk σ2 H3 fun y H4 => tv σ2 H4 fun z H5 => ∃ kvs k, y = kV k ∧ H5 D = some (.dK kvs) ∧ kvs.length < sizeLine ∧ Nx (upd H5 D (.dK (putK kvs k z))) else Nx H3) := by
  refine ⟨fun i m H => m = n - i ∧ i ≤ n ∧ Pv i H, ⟨n, by simp, Nat.zero_le _, h0⟩, fun i m H hW => ?_⟩
  obtain ⟨rfl, hi, p⟩ := hW
  have q := hG i H hi p
  rcases Nat.lt_or_ge i n with hlt | hge
  · exact .inr ⟨w.goes i H hlt q, Pv (i + 1), fun H' p' => ⟨n - (i + 1), by omega, rfl, hlt, p'⟩, fun x H' y => hs i x H H' hlt p (w.yields i H x H' hlt q y)⟩
  · obtain rfl : i = n := by omega
    exact .inl ⟨w.stops H q, hd H p⟩
theorem pe_fldK {X : Cx} {e : Expr} {f : Str} {pos : Pos} {ta : TE} {K : PySem.W.Frag} (hK : X.K = K) (he : PE X e ta) (hb : attributeBase e f X.env (eval e X.env) = eval e X.env) : PE X (.Attribute e f pos) (tFld K ta f) := by
  subst hK
  exact pe_fld he hb
/-! ### forms -/
structure FormK (K : PySem.W.Frag) (C : Addr) : Prop where
  cl : Cls K C
  n1 : NoAttr K C "constant"
  n2 : NoAttr K C "_coefficients"
  ha : PySem.W.findIn K (.ref C) "__class__" = some (some (.builtin "object.__class__"))
  hn : PySem.W.specialIn K (.builtin "object.__class__") "__get__" = some (some (.builtin "getset_descriptor.__get__"))
  htk : PySem.W.takesIn K (.builtin "object.__class__") = some true
  hm : PySem.W.mroIn K C (.type "object") = some true
  i1 : PySem.W.kitOne K (.ref C) (.type "int") = some false
  i2 : PySem.W.kitOne K (.type "int") (.ref C) = some false
abbrev fF (c : Int) (d : Addr) : List (Str × V) := [("constant", .int c), ("_coefficients", .ref d)]
/-- p is a form: constant c, coefficients m (none is nought) -/
structure FormAt (C : Addr) (H : Hp) (p : Addr) (c : Int) (m : Ps) : Prop where
  ex : ∃ dx d, H p = some (.ins C dx (fF c d)) ∧ DictAt H d m
  nz : ∀ q ∈ m, q.2 ≠ 0
theorem FormAt.same {C : Addr} {H H' : Hp} {p : Addr} {c : Int} {m : Ps} (h : FormAt C H p c m) (s : Same H H') : FormAt C H' p c m := by
  obtain ⟨⟨dx, d, h1, h2⟩, n⟩ := h
  exact ⟨⟨dx, d, s _ _ h1, h2.same s⟩, n⟩
theorem FormAt.stay {C b : Addr} {H H' : Hp} {p : Addr} {c : Int} {m : Ps} (h : FormAt C H p c m) (s : Stay b H H') (hb : ∃ xs, H b = some (.lst xs)) : FormAt C H' p c m := by
  obtain ⟨⟨dx, d, h1, h2⟩, n⟩ := h
  obtain ⟨xs, hb⟩ := hb
  exact ⟨⟨dx, d, s _ _ (ne_of h1 hb (by intro z; cases z)) h1, s _ _ (ne_of h2.at_ hb (by intro z; cases z)) h2.at_, h2.nd, h2.sym⟩, n⟩
def nzs (m : Ps) : Ps := m.filter fun q => decide (q.2 ≠ 0)
theorem nzs_co : ∀ (m : Ps) (s : Str), co (nzs m) s = co m s
  | [], _ => rfl
  | (x, v) :: m, s => by
    have ih := nzs_co m s
    unfold nzs at ih ⊢
    rw [List.filter_cons]
    by_cases e : v = 0
    · subst e
      rw [if_neg (by simp)]
      show _ = (if x = s then 0 else 0) + co m s
      rw [ih]
      simp
    · rw [if_pos (by simpa using e)]
      show (if x = s then v else 0) + _ = (if x = s then v else 0) + co m s
      rw [ih]
theorem nzs_sub (m : Ps) : (nzs m).Sublist m := List.filter_sublist
theorem nzs_nz {m : Ps} : ∀ q ∈ nzs m, q.2 ≠ 0 := fun q hq => of_decide_eq_true (List.mem_filter.mp hq).2
theorem nzs_take {m : Ps} {i : Nat} {q : Str × Int} (h : m[i]? = some q) : nzs (m.take (i + 1)) = nzs (m.take i) ++ if q.2 = 0 then [] else [q] := by
  unfold nzs
  rw [take_snoc h, List.filter_append]
  congr 1
  by_cases e : q.2 = 0
  · rw [if_pos e]
    simp [e]
  · rw [if_neg e]
    simp [e]
theorem take_new {m : Ps} {i : Nat} {q : Str × Int} (nd : (m.map (·.1)).Nodup) (h : m[i]? = some q) : q.1 ∉ (nzs (m.take i)).map (·.1) := by
  intro hq
  have h1 : q.1 ∈ (m.take i).map (·.1) := ((nzs_sub _).map _).subset hq
  have h2 : ((m.take (i + 1)).map (·.1)).Nodup := nd.sublist ((List.take_sublist _ _).map _)
  rw [take_snoc h, List.map_append, List.nodup_append] at h2
  exact h2.2.2 _ h1 q.1 (by simp) rfl
theorem keyed_kvI (m : Ps) : KwX.keyed (m.map fun p => (p.1, V.int p.2)) = kvI m := by
  unfold KwX.keyed kvI
  rw [List.map_map]
  rfl
def spInit (C : Addr) : Sp := fun vs H Q _ => ∃ (x d dx : Addr) (c : Int) (m : Ps), vs = [.ref x, .int c, .ref d] ∧ H x = some (.ins C dx []) ∧ DictAt H d m ∧ m.length < 64 ∧
  ∀ d' H', H d' = none → H' x = some (.ins C dx (fF c d')) → DictAt H' d' (nzs m) → Stay x H H' → Q .non H'
def spOf (C : Addr) : Sp := fun vs H Q _ => ∃ (c : Int) (l : Addr) (ps : Ps), vs = [.ref C, .int c, .ref l] ∧ PairsAt H l ps ∧ (∀ q ∈ ps, isSym q.1 = true) ∧ ps.length < 64 ∧
  ∀ p m H', H p = none → FormAt C H' p c m → m.length ≤ ps.length → (∀ s, co m s = co ps s) → Same H H' → Q (.ref p) H'
def spSymbols (C : Addr) : Sp := fun vs H Q _ => ∃ (p : Addr) (c : Int) (m : Ps), vs = [.ref p] ∧ FormAt C H p c m ∧ m.length < 64 ∧
  ∀ l ys H', ys.Perm (m.map (·.1)) → sortedS ys = true → H l = none → H' l = some (.lst (ys.map V.str)) → Same H H' → Q (.ref l) H'
def spFPairs (C : Addr) : Sp := fun vs H Q _ => ∃ (p : Addr) (c : Int) (m : Ps), vs = [.ref p] ∧ FormAt C H p c m ∧ m.length < 64 ∧
  ∀ l L H', PairsAt H' l L → Can L (co m) → (∀ q ∈ L, isSym q.1 = true) → L.length ≤ m.length → H l = none → Same H H' → Q (.ref l) H'
def spFWritten (C : Addr) : Sp := fun vs H Q _ => ∃ (p : Addr) (c : Int) (m : Ps), vs = [.ref p] ∧ FormAt C H p c m ∧ m.length < 64 ∧
  ∀ x L H', WrAt H' x c L → Can L (co m) → (∀ q ∈ L, isSym q.1 = true) → Same H H' → Q x H'
end Ow

set_option Elab.async false
set_option linter.all false
set_option maxRecDepth 100000
set_option maxHeartbeats 1000000
namespace Ow
open PySem PySem.Spec PyProof.Rows L2
section
variable {X : Cx} {k : Nat} {sp : Sp} {C : Addr}
theorem op_or {f : Value → Value → Sem Value} {r1 r2 : R2} (h1 : OpR X f r1) (h2 : OpR X f r2) : OpR X f (fun x y H Q => r1 x y H Q ∨ r2 x y H Q) :=
  fun pins s σ H x y v u Q I rx ry h => h.elim (h1 pins s σ H x y v u Q I rx ry) (h2 pins s σ H x y v u Q I rx ry)
theorem un_or {f : Value → Sem Value} {r1 r2 : V → Hp → VK → Prop} (h1 : UnR X f r1) (h2 : UnR X f r2) : UnR X f (fun x H Q => r1 x H Q ∨ r2 x H Q) :=
  fun pins s σ H x v Q I rx h => h.elim (h1 pins s σ H x v Q I rx) (h2 pins s σ H x v Q I rx)
/-- an operator of the class at C, with its promise -/
structure CalO (P : Program) (w : World) (K : PySem.W.Frag) (mg : Str → Option Value) (base : Heap) (C : Addr) (op : Operator) (k : Nat) (sp : Sp) : Prop where
  ex : ∃ (f : Addr) (fd : FuncData) (ps : List Str), OpX.OpC K C op f ∧ FnOk P w K mg base CX0 k f fd ps sp ∧ Binds K fd ps []
theorem op_calO {op : Operator} (c : CalO X.prog X.w X.K X.mg X.base C op k sp) (hr : Room k X.A) : OpR X (binaryOp op) (OpX.rOwn C sp E0) := by
  obtain ⟨f, fd, ps, O, F, hb⟩ := c.ex
  exact OpX.op_own O F hr hb pass0
structure CalR (P : Program) (w : World) (K : PySem.W.Frag) (mg : Str → Option Value) (base : Heap) (C : Addr) (op : Operator) (k : Nat) (sp : Sp) : Prop where
  ex : ∃ (f : Addr) (fd : FuncData) (ps : List Str), OpX.OpR' K C op f ∧ FnOk P w K mg base CX0 k f fd ps sp ∧ Binds K fd ps []
theorem op_calR {op : Operator} {id : String} (L : OpX.IntL op id) (c : CalR X.prog X.w X.K X.mg X.base C op k sp) (hr : Room k X.A) : OpR X (binaryOp op) (OpX.rRev C sp E0) := by
  obtain ⟨f, fd, ps, O, F, hb⟩ := c.ex
  exact OpX.op_rev L O F hr hb pass0
structure CalU (P : Program) (w : World) (K : PySem.W.Frag) (mg : Str → Option Value) (base : Heap) (C : Addr) (k : Nat) (sp : Sp) : Prop where
  ex : ∃ (f : Addr) (fd : FuncData) (ps : List Str), PySem.W.findIn K (.ref C) "__neg__" = some (some (.ref f)) ∧ PySem.W.isFn K (.ref f) = true ∧ FnOk P w K mg base CX0 k f fd ps sp ∧ Binds K fd ps []
def rNeg (C : Addr) (sp : Sp) : V → Hp → VK → Prop := fun x H Q => ∃ a dx fs, x = .ref a ∧ H a = some (.ins C dx fs) ∧ sp [x] H Q E0
theorem un_calU (c : CalU X.prog X.w X.K X.mg X.base C k sp) (hr : Room k X.A) : UnR X (unaryOp .USub) (rNeg C sp) := by
  obtain ⟨f, fd, ps, hs, hf, F, hb⟩ := c.ex
  exact OpX.un_own hs hf F hr hb pass0
end
/-! ### what stands at the right of an operator: an int, or a form -/
def OprAt (C : Addr) (H : Hp) (y : V) (k : Int) (g : Str → Int) (n : Nat) : Prop :=
  (y = .int k ∧ (∀ s, g s = 0) ∧ n = 0) ∨ ∃ a m, y = .ref a ∧ FormAt C H a k m ∧ (∀ s, g s = co m s) ∧ n = m.length
theorem OprAt.same {C : Addr} {H H' : Hp} {y : V} {k : Int} {g : Str → Int} {n : Nat} (h : OprAt C H y k g n) (s : Same H H') : OprAt C H' y k g n := by
  rcases h with h | ⟨a, m, h1, h2, h3⟩
  · exact .inl h
  · exact .inr ⟨a, m, h1, h2.same s, h3⟩
def MulOk (i j : Int) : Prop := CMul i j ∨ CMulW i j
theorem MulOk.neg (i : Int) : MulOk i (-1) := .inl (.inr ⟨by decide, by decide⟩)
/-- an operator on forms: what the new one is -/
def OutF (C : Addr) (H : Hp) (Q : VK) (c : Int) (g : Str → Int) (n : Nat) : Prop :=
  ∀ p m H', H p = none → FormAt C H' p c m → (∀ s, co m s = g s) → m.length ≤ n → Same H H' → Q (.ref p) H'
def spAdd (C : Addr) : Sp := fun vs H Q _ => ∃ (p : Addr) (c : Int) (m : Ps) (y : V) (k : Int) (g : Str → Int) (n : Nat), vs = [.ref p, y] ∧ FormAt C H p c m ∧ OprAt C H y k g n ∧ m.length < 30 ∧ n < 30 ∧
  OutF C H Q (c + k) (fun s => co m s + g s) (m.length + n)
def spSub (C : Addr) : Sp := fun vs H Q _ => ∃ (p : Addr) (c : Int) (m : Ps) (y : V) (k : Int) (g : Str → Int) (n : Nat), vs = [.ref p, y] ∧ FormAt C H p c m ∧ OprAt C H y k g n ∧ m.length < 30 ∧ n < 30 ∧
  OutF C H Q (c - k) (fun s => co m s - g s) (m.length + n)
def spRsub (C : Addr) : Sp := fun vs H Q _ => ∃ (p : Addr) (c : Int) (m : Ps) (k : Int), vs = [.ref p, .int k] ∧ FormAt C H p c m ∧ m.length < 30 ∧ OutF C H Q (k - c) (fun s => -co m s) m.length
def spRadd (C : Addr) : Sp := fun vs H Q _ => ∃ (p : Addr) (c : Int) (m : Ps) (k : Int), vs = [.ref p, .int k] ∧ FormAt C H p c m ∧ m.length < 30 ∧ OutF C H Q (c + k) (fun s => co m s) m.length
def spNeg (C : Addr) : Sp := fun vs H Q _ => ∃ (p : Addr) (c : Int) (m : Ps), vs = [.ref p] ∧ FormAt C H p c m ∧ m.length < 30 ∧ OutF C H Q (-c) (fun s => -co m s) m.length
def spMul (C : Addr) : Sp := fun vs H Q _ => ∃ (p : Addr) (c : Int) (m : Ps) (k : Int), vs = [.ref p, .int k] ∧ FormAt C H p c m ∧ m.length < 60 ∧ MulOk c k ∧ (∀ q ∈ m, MulOk q.2 k) ∧ OutF C H Q (c * k) (fun s => co m s * k) m.length
def spTimes : Sp := fun vs H Q _ => ∃ (a : Addr) (m : Ps) (k : Int), vs = [.ref a, .int k] ∧ DictAt H a m ∧ m.length < 30 ∧ (∀ q ∈ m, MulOk k q.2) ∧
  ∀ d m' H', H d = none → DictAt H' d m' → m'.length ≤ m.length → (∀ s, co m' s = k * co m s) → Same H H' → Q (.ref d) H'
theorem co_mulL (L : Ps) (k : Int) (s : Str) : co (L.map fun q => (q.1, k * q.2)) s = k * co L s := by
  induction L with
  | nil => exact (Int.mul_zero k).symm
  | cons q L ih =>
    show (if q.1 = s then k * q.2 else 0) + co (L.map fun q => (q.1, k * q.2)) s = k * ((if q.1 = s then q.2 else 0) + co L s)
    rw [ih, Int.mul_add]
    by_cases e : q.1 = s
    · rw [if_pos e, if_pos e]
    · rw [if_neg e, if_neg e, Int.mul_zero]
theorem co_mul (L : Ps) (k : Int) (s : Str) : co (L.map fun q => (q.1, q.2 * k)) s = co L s * k := by
  induction L with
  | nil => exact (Int.zero_mul k).symm
  | cons q L ih =>
    show (if q.1 = s then q.2 * k else 0) + co (L.map fun q => (q.1, q.2 * k)) s = ((if q.1 = s then q.2 else 0) + co L s) * k
    rw [ih, Int.add_mul]
    by_cases e : q.1 = s
    · rw [if_pos e, if_pos e]
    · rw [if_neg e, if_neg e, Int.zero_mul]
theorem form_ty {K : PySem.W.Frag} {C : Addr} {H : Hp} {p : Addr} {c : Int} {m : Ps} (R : FormK K C) (h : FormAt C H p c m) : TyX K H (.ref p) (.ref C) := by
  obtain ⟨⟨dx, d, h1, _⟩, _⟩ := h
  exact .base (.ins h1 R.cl R.ha R.hn R.htk R.hm)
theorem kit_same {K : PySem.W.Frag} (t : Value) : PySem.W.kitOne K t t = some true := by
  unfold PySem.W.kitOne
  rw [if_pos (beq_self_eq_true t)]
/-- isinstance of an int and of a form -/
theorem isi_int {K : PySem.W.Frag} {H : Hp} {Q : VK} {i : Int} (h : Q (.bl true) H) : rIsi K [.int i, .ty "int"] H Q := ⟨_, _, _, _, true, rfl, .ty "int", .base (.int i), kit_same _, h⟩
theorem isi_int0 {K : PySem.W.Frag} {C : Addr} {H : Hp} {Q : VK} {i : Int} (R : FormK K C) (h : Q (.bl false) H) : rIsi K [.int i, .ref C] H Q := ⟨_, _, _, _, false, rfl, .own C, .base (.int i), R.i2, h⟩
theorem isi_form {K : PySem.W.Frag} {C : Addr} {H : Hp} {Q : VK} {p : Addr} {c : Int} {m : Ps} (R : FormK K C) (hF : FormAt C H p c m) (h : Q (.bl true) H) : rIsi K [.ref p, .ref C] H Q := ⟨_, _, _, _, true, rfl, .own C, form_ty R hF, kit_same _, h⟩
theorem isi_form0 {K : PySem.W.Frag} {C : Addr} {H : Hp} {Q : VK} {p : Addr} {c : Int} {m : Ps} (R : FormK K C) (hF : FormAt C H p c m) (h : Q (.bl false) H) : rIsi K [.ref p, .ty "int"] H Q := ⟨_, _, _, _, false, rfl, .ty "int", form_ty R hF, R.i1, h⟩
theorem paired_app {α β : Type} {F : α → β → Prop} {l2 : List α} {m2 : List β} (h : Paired F l2 m2) : ∀ {l : List α} {m : List β}, Paired F l m → Paired F (l ++ l2) (m ++ m2)
  | _, _, .nil => h
  | _, _, .cons g r => .cons g (paired_app h r)
theorem none_back {H H' : Hp} {a : Addr} (s : Same H H') (h : H' a = none) : H a = none := by
  cases q : H a with
  | none => rfl
  | some o => rw [s _ _ q] at h; cases h
end Ow

set_option Elab.async false
set_option linter.all false
set_option maxRecDepth 100000
set_option maxHeartbeats 1000000
namespace Ow
open PySem PySem.Spec PyProof.Rows L2
theorem same_stay {b : Addr} {H H1 H2 : Hp} (s : Same H H1) (hb : H b = none) (t : Stay b H1 H2) : Same H H2 := fun a o e => t a o (ne_of_none e hb) (s a o e)
theorem seq_cut {a b : TS} {D : Ends} {σ : L2.St} {H : Hp} (R : Hp → Prop) (fin : ∀ H', R H' → b D σ H') (main : (∀ H', R H' → b D σ H') → tSeq a b D σ H) : tSeq a b D σ H := main fin
def spLaw (K : PySem.W.Frag) : Sp := fun vs H Q _ => ∃ (a : Addr) (ns : List Int), vs = [.ref a] ∧ SqL K H a (ns.map V.int) ∧ ns.length ≤ 63 ∧ ∀ H', Q (.bl true) H'
/-- two written tuples are one -/
theorem wr_one {L L' : Ps} {g g' : Str → Int} {c c' : Int} (c1 : Can L g) (c2 : Can L' g') (e : ∀ s, g s = g' s) (ec : c = c') (hS : ∀ q ∈ L, isSym q.1 = true) : PyData.eqv (datW c L) (datW c' L') = true := by
  rw [← can_one c1 c2 e, ← ec]
  exact eqvW c hS
theorem can_nil {L : Ps} {g : Str → Int} (c : Can L g) (h : ∀ s, g s = 0) : L = [] := by
  cases L with
  | nil => rfl
  | cons q L => exact absurd (h q.1) ((can_mem c q.1).mp (by simp))
theorem wr_nil {L : Ps} {g : Str → Int} {c : Int} (c1 : Can L g) (h : ∀ s, g s = 0) (ec : c = 0) : PyData.eqv (datW c L) (.tuple [.int 0, .tuple []]) = true := by
  rw [can_nil c1 h, ec]
  rfl
theorem PairsAt.over {H : Hp} {l x : Addr} {ps : Ps} {xs ys : List V} (h : PairsAt H l ps) (hx : H x = some (.lst xs)) (ne : l ≠ x) : PairsAt (L2.upd H x (.lst ys)) l ps := by
  obtain ⟨zs, hz, hp⟩ := h
  refine ⟨zs, (upd_ne ne).trans hz, paired_map (fun y q hq => ?_) hp⟩
  obtain ⟨u, rfl, hu⟩ := hq
  exact ⟨u, rfl, (upd_ne (ne_of hu hx (by intro z; cases z))).trans hu⟩
theorem pairs_copy {H : Hp} {l : Addr} {ps : Ps} {xs : List V} (hp : Paired (PairAt H) xs ps) (hl : H l = none) : PairsAt (upd H l (.lst xs)) l ps :=
  ⟨xs, upd_same, paired_map (fun _ _ q => q.same (same_new (fun _ _ e => e) hl)) hp⟩
end Ow

set_option Elab.async false
set_option linter.all false
set_option maxRecDepth 100000
set_option maxHeartbeats 1000000
namespace OpX
open PySem PySem.Spec PyProof.Rows L2
/-- no class of C's has the operator in place -/
structure NoI (K : PySem.W.Frag) (C : Addr) (op : Operator) : Prop where
  mro : ∃ cd, PySem.W.clsIn K C = some cd ∧ cd.mro = [.ref C, .type "object"]
  own : PySem.W.findIn K (.ref C) (PySem.dunderI op.info.2) = some none
  obj : PySem.W.findIn K (.type "object") (PySem.dunderI op.info.2) = some none
open PySem.W in
theorem no_fills {K : PySem.W.Frag} {C : Addr} {op : Operator} {M : Model} {h : Heap} {add : Bool} (N : NoI K C op) (KX : K.In h) : Looks M h (fillsInplaceSlot (.ref C) op.info.2 add) false := by
  intro A Q E s k q
  obtain ⟨cd, hcd, hm⟩ := N.mro
  have Lm : Looks M h (mroOf (.ref C)) cd.mro := (looks_clsIn KX hcd).andThen (f := fun cd => pure cd.mro) .now
  have Lm' := Lm.keeps k
  obtain ⟨hh, g, d, tt, os⟩ := s
  have X' : K.In hh := KX.keeps k
  have La : Looks M hh (typeLookup (.ref C) (dunderI op.info.2)) none := looks_findIn X' N.own
  have Lb : Looks M hh (typeLookup (.type "object") (dunderI op.info.2)) none := looks_findIn X' N.obj
  unfold fillsInplaceSlot
  refine wpAny_bind (Lm'.at ?_)
  rw [hm, List.anyM_cons, List.anyM_cons]
  refine wpAny_bind ?_
  repeat lk
  exact q
open PySem.W in
theorem one_own {K : PySem.W.Frag} {h0 : Heap} {Lx m} {prog : Program} {w : World} {A : Around} {E : Value → Shared → Prop} {s : Shared} {x C f : Addr} {ox od : Obj} {op : Operator} {b : Value} {Q : Value → Shared → Prop} (F : Fr h0 Lx s.heap m) (X₀ : K.In h0) (I : InstAt s.heap x ox C od) (O : OpC K C op f)
    (hb : typeOf b = pure (.type "int") ∨ Looks (model prog w) s.heap (typeOf b) (.ref C)) (h : wpAny (model prog w) A (call (.ref f) [.ref x, b]) (PySem.W.CmpBack Q) E s) :
    wpAny (model prog w) A (binaryOp1 op.info.2 (.ref x) b) (fun r s' => ∃ v, r = some v ∧ Q v s') E s := by
  have X := X₀.keeps F.keep
  obtain ⟨cd, rest, hcd, hm⟩ := ksp_first O.first
  have hs := O.at_
  obtain ⟨rc, hr, hp⟩ := O.rr
  obtain ⟨fo, h1⟩ := O.i1
  obtain ⟨ro, h2⟩ := O.i2
  have one := ksp_try X I hs O.fn h
  have fills := fills_K X hcd hm hs (M := model prog w)
  rcases hb with hb | hb
  · obtain ⟨hh, g, d, tt, os⟩ := s
    have l1 : Looks (model prog w) hh (typeOf (.ref x)) (.ref C) := I.type
    have l2 : Looks (model prog w) hh (typeOf b) (.type "int") := Looks.of_pure hb
    have l3 : Looks (model prog w) hh (fillsNumberSlot (.ref C) op.info.2) true := fills
    have l4 : Looks (model prog w) hh (fillsNumberSlot (.type "int") op.info.2) ((fo.isSome && !isSeqSlot fo) || (ro.isSome && !isSeqSlot ro)) := ksp_fillsT X h1 h2
    have l5 : Looks (model prog w) hh (isSubtype (.type "int") (.ref C)) false := looks_subIn X O.sub
    have l6 : Looks (model prog w) hh (numberSlotInPython (.ref C) op.info.2) true := ksp_inPy X hs hr hp
    have l7 : Looks (model prog w) hh (numberSlotInPython (.type "int") op.info.2) false := Looks.of_pure rfl
    have l8 : Looks (model prog w) hh (typeLookup (.type "int") (dunderR op.info.2)) ro := looks_findIn X h2
    generalize ((fo.isSome && !isSeqSlot fo) || (ro.isSome && !isSeqSlot ro)) = right at l4
    have hne : (Value.ref C == Value.type "int") = false := Bool.eq_false_iff.mpr fun q => by cases beq_iff_eq.mp q
    unfold binaryOp1
    refine wpAny_bind (l1.at (wpAny_bind (l2.at (wpAny_bind (l3.at ?_)))))
    simp only [hne, Bool.false_eq_true, if_false]
    cases right with
    | false =>
      ksp_lk
      refine wpAny_mono one (fun r s' hr' => ?_) fun _ _ e => e
      obtain ⟨v, rfl, hq⟩ := hr'
      ksp_lk
      exact ⟨v, rfl, hq⟩
    | true =>
      ksp_lk
      refine wpAny_mono one (fun r s' hr' => ?_) fun _ _ e => e
      obtain ⟨v, rfl, hq⟩ := hr'
      ksp_lk
      exact ⟨v, rfl, hq⟩
  · obtain ⟨hh, g, d, tt, os⟩ := s
    have l1 : Looks (model prog w) hh (typeOf (.ref x)) (.ref C) := I.type
    have l2 : Looks (model prog w) hh (typeOf b) (.ref C) := hb
    have l3 : Looks (model prog w) hh (fillsNumberSlot (.ref C) op.info.2) true := fills
    unfold binaryOp1
    refine wpAny_bind (l1.at (wpAny_bind (l2.at (wpAny_bind (l3.at ?_)))))
    simp only [beq_self_eq_true, if_true]
    ksp_lk
    refine wpAny_mono one (fun r s' hr' => ?_) fun _ _ e => e
    obtain ⟨v, rfl, hq⟩ := hr'
    ksp_lk
    exact ⟨v, rfl, hq⟩
section
variable {X : Cx} {CX : CXT} {k : Nat} {f C : Addr} {fd : FuncData} {ps : List Str} {sp : Sp} {E : XK}
/-- x op= y, x an instance without an operator in place -/
theorem op_iown {op : Operator} (O : OpC X.K C op f) (N : NoI X.K C op) (F : FnOk X.prog X.w X.K X.mg X.base CX k f fd ps sp) (hr : Room k X.A) (hb : Binds X.K fd ps []) (hx : Passes CX X E) : OpR X (inplaceOp op) (rOwn C sp E) := by
  intro pins s σ H x y u v Q I rx ry h
  obtain ⟨a, dx, fs, rfl, ha, hy, hsp⟩ := h
  obtain rfl : u = Value.ref a := rx
  obtain ⟨mA, J, _⟩ := ins_get I.hok ha
  obtain ⟨od, J, _⟩ := J.look
  obtain ⟨m, hF⟩ := I.fr
  have hcall : wpAny (model X.prog X.w) X.A (call (.ref f) [.ref a, v]) (PySem.W.CmpBack (EP X pins σ Q)) X.xe s := by
    refine thn (run_fn (Q := Q) (us := [.ref a, v]) (vs := [.ref a, y]) F hr hb .nil hx I (.cons rfl (.cons ry .nil)) (by rw [List.append_nil]; exact hsp)) fun w' s' hh => ?_
    obtain ⟨z, H', I', rz, q⟩ := hh
    exact back rz ⟨z, H', I', rz, q⟩
  have hty : typeOf v = pure (.type "int") ∨ PySem.W.Looks (model X.prog X.w) s.heap (typeOf v) (.ref C) := by
    rcases hy with ⟨i, rfl⟩ | ⟨b, dy, gs, rfl, hb'⟩
    · obtain ⟨t, rfl⟩ := (show ∃ t, v = Value.int i t from ry)
      exact .inl rfl
    · obtain rfl : v = Value.ref b := ry
      obtain ⟨mB, J', _⟩ := ins_get I.hok hb'
      obtain ⟨od', J', _⟩ := J'.look
      exact .inr J'.type
  have one := one_own hF I.ok.mod.kin J O hty hcall
  have l1 : PySem.W.Looks (model X.prog X.w) s.heap (typeOf (.ref a)) (.ref C) := J.type
  have l2 : PySem.W.Looks (model X.prog X.w) s.heap (fillsInplaceSlot (.ref C) op.info.2 (op == .Add)) false := no_fills N I.kIn
  unfold inplaceOp
  refine wpAny_holding ?_
  obtain ⟨hh, g, d, tt, os⟩ := s
  refine wpAny_bind (l1.at (wpAny_bind (l2.at ?_)))
  simp only [Bool.false_eq_true, if_false]
  refine wpAny_bind (wpAny_mono one (fun r s' hr' => ?_) fun _ _ e => e)
  obtain ⟨v, rfl, hq⟩ := hr'
  exact wpAny_pure hq
end
end OpX

set_option Elab.async false
set_option linter.all false
set_option maxRecDepth 100000
set_option maxHeartbeats 1000000
namespace Ow
open PySem PySem.Spec PyProof.Rows L2
section
variable {X : Cx} {k : Nat} {sp : Sp} {C : Addr}
structure CalI (P : Program) (w : World) (K : PySem.W.Frag) (mg : Str → Option Value) (base : Heap) (C : Addr) (op : Operator) (k : Nat) (sp : Sp) : Prop where
  ex : ∃ (f : Addr) (fd : FuncData) (ps : List Str), OpX.OpC K C op f ∧ OpX.NoI K C op ∧ FnOk P w K mg base CX0 k f fd ps sp ∧ Binds K fd ps []
theorem op_calI {op : Operator} (c : CalI X.prog X.w X.K X.mg X.base C op k sp) (hr : Room k X.A) : PIp X op (OpX.rOwn C sp E0) := by
  obtain ⟨f, fd, ps, O, N, F, hb⟩ := c.ex
  exact OpX.op_iown O N F hr hb pass0
end
theorem wr_nilK {L : Ps} {g : Str → Int} {c k : Int} (c1 : Can L g) (h : ∀ s, g s = 0) (ec : c = k) : PyData.eqv (datW c L) (.tuple [.int k, .tuple []]) = true := by
  rw [can_nil c1 h, ec]
  show ((k == k) && (PyData.eqvAll [] [] && true)) = true
  rw [beq_self_eq_true]
  rfl
theorem co_bound {B : Nat} : ∀ {ps : Ps}, (∀ q ∈ ps, q.2.natAbs ≤ B) → ∀ s, (co ps s).natAbs ≤ ps.length * B
  | [], _, _ => Nat.zero_le _
  | q :: ps, h, s => by
    have h1 := co_bound (fun r hr => h r (List.mem_cons_of_mem _ hr)) s
    have h2 := h q List.mem_cons_self
    show ((if q.1 = s then q.2 else 0) + co ps s).natAbs ≤ (ps.length + 1) * B
    have h3 := Int.natAbs_add_le (if q.1 = s then q.2 else 0) (co ps s)
    have h4 : (if q.1 = s then q.2 else 0).natAbs ≤ B := by
      by_cases e : q.1 = s
      · rw [if_pos e]
        exact h2
      · rw [if_neg e]
        exact Nat.zero_le _
    rw [Nat.add_mul, Nat.one_mul]
    omega
theorem log_small {n : Nat} (h : n < 2 ^ 400) : n.log2 ≤ 400 := by
  rcases Nat.eq_zero_or_pos n with z | z
  · rw [z]
    decide
  · exact Nat.le_of_lt ((Nat.log2_lt (Nat.pos_iff_ne_zero.mp z)).mpr h)
theorem MulOk.small {i j : Int} (hi : i.natAbs < 2 ^ 400) (hj : j.natAbs < 2 ^ 400) : MulOk i j := by
  have h1 := log_small hi
  have h2 := log_small hj
  exact .inr (show i.natAbs.log2 + j.natAbs.log2 < 1000000 by omega)
theorem MulOk.left {i j : Int} (hi : -(2 ^ 64) < i ∧ i < 2 ^ 64) : MulOk i j := .inl (.inl hi)
theorem MulOk.right {i j : Int} (hj : -(2 ^ 64) < j ∧ j < 2 ^ 64) : MulOk i j := .inl (.inr hj)
/-- a form's own coefficients are those of what it was made of -/
theorem form_mem {m ps : Ps} (nd : (m.map (·.1)).Nodup) (h : ∀ s, co m s = co ps s) {q : Str × Int} (hq : q ∈ m) : q.2 = co ps q.1 := by
  rw [← h, co_in nd hq]
end Ow

set_option Elab.async false
set_option linter.all false
set_option maxRecDepth 100000
set_option maxHeartbeats 1000000
namespace OpX
open PySem PySem.Spec PyProof.Rows L2
/-- a method that an instance's own syntax reaches: o[i], o(x), .. -/
structure CalG (P : Program) (w : World) (K : PySem.W.Frag) (mg : Str → Option Value) (base : Heap) (C : Addr) (m : Str) (k : Nat) (sp : Sp) : Prop where
  ex : ∃ (f : Addr) (fd : FuncData) (ps : List Str), PySem.W.findIn K (.ref C) m = some (some (.ref f)) ∧ PySem.W.isFn K (.ref f) = true ∧ PySem.W.fnIn K f = true ∧ FnOk P w K mg base CX0 k f fd ps sp ∧ Binds K fd ps []
section
variable {X : Cx} {k : Nat} {sp : Sp} {C : Addr} {o i e : Expr} {to ti te : TE} {pos : Pos}
theorem run_code {CX : CXT} {f : Addr} {fd : FuncData} {ps : List Str} {E : XK} {pins : List (Addr × Obj)} {σ : L2.St} {H : Hp} {s : Shared} {Q : VK} {us : List Value} {vs : List V} (F : FnOk X.prog X.w X.K X.mg X.base CX k f fd ps sp) (hr : Room k X.A) (hb : Binds X.K fd ps [])
    (hx : Passes CX X E) (I : Inv X pins σ H s) (r : Vals vs us) (h : sp vs H Q E) : codeAny (model X.prog X.w) X.A (.call (.ref f) ⟨us, []⟩) (wants (EP X pins σ Q) X.xe) s := by
  have hl : us.length = ps.length := by rw [← r.length]; exact F.len _ _ _ _ h
  have hb' := hb s us I.kIn (by rw [List.append_nil]; exact hl)
  rw [List.append_nil] at hb'
  refine codeAny_mono (F.run X.A X.stack s H ⟨us, []⟩ us vs Q E hr I.env0 hb' r h) fun r s' hq => ?_
  cases r with
  | error e => exact hx pins σ H s e s' I hq
  | ok fl =>
    cases fl with
    | ret u => exact I.after hq
    | next => exact False.elim hq
    | brk => exact False.elim hq
    | cont => exact False.elim hq
/-- .. run one builtin deeper -/
theorem run_in1 {CX : CXT} {f : Addr} {fd : FuncData} {ps : List Str} {E : XK} {pins : List (Addr × Obj)} {σ : L2.St} {H : Hp} {s : Shared} {Q : VK} {us : List Value} {vs : List V} (F : FnOk X.prog X.w X.K X.mg X.base CX k f fd ps sp) (hr : Room (k + 1) X.A) (hb : Binds X.K fd ps [])
    (hx : Passes CX X E) (I : Inv X pins σ H s) (r : Vals vs us) (h : sp vs H Q E) : wpAny (model X.prog X.w) X.A.in1 (call (.ref f) us) (EP X pins σ Q) X.xe s := by
  have hl : us.length = ps.length := by rw [← r.length]; exact F.len _ _ _ _ h
  have hb' := hb s us I.kIn (by rw [List.append_nil]; exact hl)
  rw [List.append_nil] at hb'
  refine wpAny_call (codeAny_mono (F.run X.A.in1 X.stack s H ⟨us, []⟩ us vs Q E hr.in1 I.env0.in1 hb' r h) fun r s' hq => ?_)
  cases r with
  | error e => exact hx pins σ H s e s' I hq
  | ok fl =>
    cases fl with
    | ret u => exact I.after hq
    | next => exact False.elim hq
    | brk => exact False.elim hq
    | cont => exact False.elim hq
def tGetC (C : Addr) (sp : Sp) (to ti : TE) : TE := fun σ H Q => to σ H fun x H1 => ti σ H1 fun y H2 => ∃ a dx fs, x = .ref a ∧ H2 a = some (.ins C dx fs) ∧ sp [x, y] H2 Q E0
theorem pe_getC (c : CalG X.prog X.w X.K X.mg X.base C "__getitem__" k sp) (hr : Room (k + 1) X.A) (ho : PE X o to) (hi : PE X i ti)
    (hsl : ∀ a y, subscripted i true (.ref a) y = runValue (.builtin "lifetime.subscript" ⟨[.ref a, y], []⟩) := by intro _ _; with_unfolding_all rfl) : PE X (.Subscript o i pos) (tGetC C sp to ti) := by
  obtain ⟨f, fd, ps, hs, hf, hfn, F, hb⟩ := c.ex
  refine ⟨fun pins s σ H Q I h => ?_⟩
  refine Subscript_ (thn (ho.run pins s σ H _ I h) fun v s1 ⟨x, H1, I1, rx, q1⟩ => thn (hi.run pins s1 σ H1 _ I1 q1) fun u s2 ⟨y, H2, I2, ry, a, dx, fs, ex, ea, q2⟩ => ?_)
  subst ex
  obtain rfl : v = Value.ref a := rx
  obtain ⟨mA, J, _⟩ := ins_get I2.hok ea
  obtain ⟨od, J, _⟩ := J.look
  obtain ⟨m, hF⟩ := I2.fr
  exact PySem.W.sub_K hF I2.ok.mod.kin J hs hfn hf (run_in1 (vs := [.ref a, y]) F hr hb pass0 I2 (.cons rfl (.cons ry .nil)) q2) (hsl a u)
theorem callWith_inst {M : Model} {A : Around} {E : Value → Shared → Prop} {s : Shared} {x : Addr} {first : List Value} {Q : Value → Shared → Prop} {args : List (Bool × Sem Value)} (hp : (args.any (·.1) || ([] : List (Option Str × Sem Value)).any (·.1.isNone)) = false)
    (h : wpAny M A (evalArgs (.ref x) true args []) (fun a s1 => (∃ ox, s1.heap.get? x = some ox ∧ ox.data = .plain) ∧ wpAny M A (call (.ref x) (first ++ a.pos) a.kw) Q E s1) E s) : wpAny M A (callWith pos (.ref x) first args []) Q E s := by
  unfold callWith
  refine wpAny_bind (wpAny_holding (wpAny_mono h (fun a s1 h1 => wpAny_bind (wpAny_standAt ?_)) fun _ _ y => y))
  obtain ⟨⟨ox, e1, e2⟩, hc⟩ := h1
  have kp : PySem.W.Looks M s1.heap (keeperOf (.ref x)) .caller := by
    refine (PySem.W.Looks.ld (part := none) e1).andThen ?_
    simp only [e2]
    exact .now
  simp only [hp]
  refine wpAny_bind (kp.here ?_)
  exact wpAny_bind (wpAny_mono (wpAny_operateT hc) (fun r s2 hr => wpAny_bind (wpAny_holding (wpAny_point (wpAny_pure hr)))) fun _ _ y => y)
def tCallC (C : Addr) (sp : Sp) (to : TE) (t : TA) : TE := fun σ H Q => to σ H fun x H1 => ∃ a dx fs, x = .ref a ∧ H1 a = some (.ins C dx fs) ∧ t σ H1 fun vs H2 => ∃ dx' fs', H2 a = some (.ins C dx' fs') ∧ sp (x :: vs) H2 Q E0
theorem pe_callC {es : List Expr} {t : TA} (c : CalG X.prog X.w X.K X.mg X.base C "__call__" k sp) (hr : Room k X.A) (ho : PE X o to) (ha : PA X (e :: es) t) (hst : starEach (e :: es) X.env = (false, eval e X.env) :: starEach es X.env := by rfl) (hpl : (backTo pos (starEach es X.env)).any (·.1) = false := by rfl)
    (hc : eval (.Call o (e :: es) [] pos) X.env = (do
      let f ← eval o X.env
      callWith pos f [] (backTo pos (starEach (e :: es) X.env)) (backToKw pos (keywordEach [] X.env))) := by rfl) :
    PE X (.Call o (e :: es) [] pos) (tCallC C sp to t) := by
  obtain ⟨f, fd, ps, hs, hf, hfn, F, hb⟩ := c.ex
  refine ⟨fun pins s σ H Q I h => ?_⟩
  refine Call_ (thn (ho.run pins s σ H _ I h) fun v s1 ⟨x, H1, I1, rx, a, dx, fs, ex, ea, q1⟩ => ?_) hc
  subst ex
  obtain rfl : v = Value.ref a := rx
  obtain ⟨mA, J, _⟩ := ins_get I1.hok ea
  obtain ⟨od, J, _⟩ := J.look
  refine callWith_inst (by rw [hst]; show ((false || (backTo pos (starEach es X.env)).any (·.1)) || false) = false; rw [hpl]; rfl) ?_
  have go := ha.run pos pins s1 σ H1 _ I1 q1
  rw [hst] at go ⊢
  refine Calls.evalArgs_plain (thn go fun us s2 ⟨vs, H2, I2, rv, dx', fs', ea', q2⟩ => ?_)
  obtain ⟨mA', J', _⟩ := ins_get I2.hok ea'
  have hat := J'.obj
  obtain ⟨od', J', _⟩ := J'.look
  refine ⟨⟨_, hat, rfl⟩, wpAny_call (PySem.W.kco_code (a := ⟨us, []⟩) I2.kIn J' rfl hs hf hfn ?_)⟩
  exact run_code F hr hb pass0 I2 (us := .ref a :: us) (vs := .ref a :: vs) (.cons rfl rv) q2
end
end OpX

set_option Elab.async false
set_option linter.all false
set_option maxRecDepth 100000
set_option maxHeartbeats 1000000
namespace Ow
open PySem PySem.Spec PyProof.Rows L2
/-! ### the value of a list of pairs -/
def ev : Ps → (Str → Int) → Int
  | [], _ => 0
  | (x, n) :: r, v => n * v x + ev r v
def offs (a : Ps) (x : Str) : Ps := a.filter fun q => decide (q.1 ≠ x)
theorem offs_cons_eq (q : Str × Int) (a : Ps) (x : Str) (e : q.1 = x) : offs (q :: a) x = offs a x := by
  unfold offs
  rw [List.filter_cons, if_neg (by simp [e])]
theorem offs_cons_ne (q : Str × Int) (a : Ps) (x : Str) (e : q.1 ≠ x) : offs (q :: a) x = q :: offs a x := by
  unfold offs
  rw [List.filter_cons, if_pos (by simp [e])]
theorem ev_app (v : Str → Int) : ∀ a b : Ps, ev (a ++ b) v = ev a v + ev b v
  | [], b => (Int.zero_add _).symm
  | (x, n) :: a, b => by
    show n * v x + ev (a ++ b) v = n * v x + ev a v + ev b v
    rw [ev_app v a b, Int.add_assoc]
theorem ev_mul (v : Str → Int) (k : Int) : ∀ a : Ps, ev (a.map fun q => (q.1, k * q.2)) v = k * ev a v
  | [] => (Int.mul_zero k).symm
  | (x, n) :: a => by
    show k * n * v x + ev (a.map fun q => (q.1, k * q.2)) v = k * (n * v x + ev a v)
    rw [ev_mul v k a, Int.mul_add, Int.mul_assoc]
theorem ev_split (v : Str → Int) (x : Str) : ∀ a : Ps, ev a v = co a x * v x + ev (offs a x) v
  | [] => by
    show (0 : Int) = 0 * v x + 0
    omega
  | (y, n) :: a => by
    have ih := ev_split v x a
    show n * v y + ev a v = ((if y = x then n else 0) + co a x) * v x + ev (offs ((y, n) :: a) x) v
    rw [ih, Int.add_mul]
    by_cases e : y = x
    · rw [offs_cons_eq (y, n) a x e, if_pos e, e]
      omega
    · rw [offs_cons_ne (y, n) a x e, if_neg e, Int.zero_mul]
      show _ = 0 + co a x * v x + (n * v y + ev (offs a x) v)
      omega
theorem co_offs (x s : Str) : ∀ a : Ps, co (offs a x) s = if s = x then 0 else co a s
  | [] => by
    show (0 : Int) = _
    split <;> rfl
  | (y, n) :: a => by
    have ih := co_offs x s a
    show _ = if s = x then 0 else (if y = s then n else 0) + co a s
    by_cases e : y = x
    · rw [offs_cons_eq (y, n) a x e, ih]
      by_cases e2 : s = x
      · rw [if_pos e2, if_pos e2]
      · rw [if_neg e2, if_neg e2, if_neg (fun z : y = s => e2 (z.symm.trans e)), Int.zero_add]
    · rw [offs_cons_ne (y, n) a x e]
      show (if y = s then n else 0) + co (offs a x) s = _
      rw [ih]
      by_cases e2 : s = x
      · rw [if_pos e2, if_pos e2, if_neg (fun z => e (z.trans e2))]
        rfl
      · rw [if_neg e2, if_neg e2]
theorem ev_zero (v : Str → Int) : ∀ (n : Nat) (a : Ps), a.length ≤ n → (∀ s, co a s = 0) → ev a v = 0
  | _, [], _, _ => rfl
  | 0, _ :: _, h, _ => absurd h (by simp)
  | n + 1, (x, k) :: a, h, z => by
    rw [ev_split v x ((x, k) :: a), z x, Int.zero_mul, Int.zero_add, offs_cons_eq (x, k) a x rfl]
    refine ev_zero v n _ (Nat.le_trans (List.length_filter_le _ _) (by simpa using h)) fun s => ?_
    rw [co_offs]
    by_cases e : s = x
    · rw [if_pos e]
    · rw [if_neg e]
      have := z s
      show co a s = 0
      have e3 : co ((x, k) :: a) s = (if x = s then k else 0) + co a s := rfl
      rw [e3, if_neg (fun q => e q.symm), Int.zero_add] at this
      exact this
theorem ev_co {a b : Ps} (v : Str → Int) (h : ∀ s, co a s = co b s) : ev a v = ev b v := by
  have z := ev_zero v _ (a ++ b.map fun q => (q.1, -1 * q.2)) (Nat.le_refl _) fun s => by
    rw [co_append, co_mulL, h s]
    omega
  rw [ev_app, ev_mul] at z
  omega
theorem ev_congr {v v' : Str → Int} : ∀ {a : Ps}, (∀ q ∈ a, v q.1 = v' q.1) → ev a v = ev a v'
  | [], _ => rfl
  | (x, n) :: a, h => by
    show n * v x + ev a v = n * v' x + ev a v'
    rw [h (x, n) List.mem_cons_self, ev_congr fun q hq => h q (List.mem_cons_of_mem _ hq)]
theorem ev_snoc (v : Str → Int) (a : Ps) (q : Str × Int) : ev (a ++ [q]) v = ev a v + q.2 * v q.1 := by
  rw [ev_app]
  show ev a v + (q.2 * v q.1 + 0) = _
  omega
theorem ev_sum (v : Str → Int) : ∀ a : Ps, (a.map fun q => q.2 * v q.1).sum = ev a v
  | [] => rfl
  | (x, n) :: a => by
    rw [List.map_cons, List.sum_cons, ev_sum v a]
    rfl
/-- a coefficient changed at x -/
theorem ev_at {a : Ps} {v : Str → Int} {x : Str} {z : Int} : ev a (fun s => if s = x then z else v s) = co a x * z + ev (offs a x) v := by
  rw [ev_split _ x a]
  show co a x * (if x = x then z else v x) + _ = _
  rw [if_pos rfl]
  congr 1
  refine ev_congr fun q hq => ?_
  have := of_decide_eq_true (List.mem_filter.mp hq).2
  show (if q.1 = x then z else v q.1) = v q.1
  rw [if_neg this]
theorem offs_snoc (a : Ps) (q : Str × Int) (x : Str) : offs (a ++ [q]) x = offs a x ++ if q.1 = x then [] else [q] := by
  unfold offs
  rw [List.filter_append]
  congr 1
  by_cases e : q.1 = x
  · rw [if_pos e]
    simp [e]
  · rw [if_neg e]
    simp [e]
theorem ix_tupK {X : Cx} {K : PySem.W.Frag} (hK : X.K = K) : IxR X (rIxT K) := by
  subst hK
  exact ix_tup
def spGet (C : Addr) : Sp := fun vs H Q _ => ∃ (p : Addr) (c : Int) (m : Ps) (x : Str), vs = [.ref p, .str x] ∧ FormAt C H p c m ∧ Q (.int (co m x)) H
def spCall (C : Addr) : Sp := fun vs H Q _ => ∃ (p d : Addr) (c : Int) (m M : Ps), vs = [.ref p, .ref d] ∧ FormAt C H p c m ∧ DictAt H d M ∧ m.length < 64 ∧ (∀ s, MulOk (co m s) (co M s)) ∧ ∀ H', Same H H' → Q (.int (c + ev m (co M))) H'
def spPut (C : Addr) : Sp := fun vs H Q _ => ∃ (p o : Addr) (c c2 : Int) (m m2 : Ps) (x : Str), vs = [.ref p, .str x, .ref o] ∧ FormAt C H p c m ∧ FormAt C H o c2 m2 ∧ m.length < 15 ∧ m2.length < 15 ∧ MulOk c2 (co m x) ∧ (∀ q ∈ m2, MulOk q.2 (co m x)) ∧
  OutF C H Q (c + c2 * co m x) (fun s => (if s = x then 0 else co m s) + co m2 s * co m x) (m.length + m2.length)
def spValues : Sp := fun vs H Q _ => ∃ (b l : Addr) (n : Nat) (ys : List Str), vs = [.ref b, .ref l] ∧ BagAt H b n ∧ n < 700000000 ∧ H l = some (.lst (ys.map V.str)) ∧ l ≠ b ∧ (∀ y ∈ ys, isSym y = true) ∧ ys.length < 64 ∧
  ∀ d M H', H d = none → d ≠ b → DictAt H' d M → M.length < 80 → (∀ q ∈ M, q.2.natAbs ≤ 10 ^ 25) → BagAt H' b (n + 2000) → Stay b H H' → Q (.ref d) H'
def spValue : Sp := fun vs H Q _ => ∃ (c : Int) (a d : Addr) (m M : Ps), vs = [.int c, .ref a, .ref d] ∧ a ≠ d ∧ DictAt H a m ∧ DictAt H d M ∧ (∀ s, MulOk (co m s) (co M s)) ∧ ∀ H', Same H H' → Q (.int (c + ev m (co M))) H'
end Ow
namespace Ow
open PySem PySem.Spec PyProof.Rows L2
theorem putS_vals {s : Str} {v : Int} : ∀ {m : Ps}, ∀ q ∈ putS m s v, q ∈ m ∨ q.2 = v
  | [], q, hq => by
    cases List.mem_singleton.mp hq
    exact .inr rfl
  | (x, u) :: r, q, hq => by
    unfold putS at hq
    by_cases e : x = s
    · rw [if_pos e] at hq
      rcases List.mem_cons.mp hq with rfl | hq
      · exact .inr rfl
      · exact .inl (List.mem_cons_of_mem _ hq)
    · rw [if_neg e] at hq
      rcases List.mem_cons.mp hq with rfl | hq
      · exact .inl List.mem_cons_self
      · rcases putS_vals q hq with h | h
        · exact .inl (List.mem_cons_of_mem _ h)
        · exact .inr h
theorem kvI_none : ∀ {m : Ps} {s : Str}, s ∉ m.map (·.1) → valV (kvI m) (Sum.inr s) = none
  | [], _, _ => rfl
  | (x, v) :: m, s, h => by
    have h1 : ¬ x = s := fun e => h (by simp [e])
    have h2 := kvI_none (m := m) (s := s) fun e => h (by rw [List.map_cons]; exact List.mem_cons_of_mem _ e)
    unfold valV kvI at h2 ⊢
    rw [List.map_cons]
    simp [h1]
    simpa using h2
theorem kvI_getD (m : Ps) (s : Str) (z : Int) (nd : (m.map (·.1)).Nodup) : ∃ u : Int, (valV (kvI m) (Sum.inr s)).getD (V.int z) = V.int u ∧ (u = z ∨ (s, u) ∈ m) := by
  by_cases h : s ∈ m.map (·.1)
  · obtain ⟨q, hq, rfl⟩ := List.mem_map.mp h
    refine ⟨co m q.1, by rw [kvI_get nd h]; rfl, .inr ?_⟩
    rw [co_in nd hq]
    exact hq
  · exact ⟨z, by rw [kvI_none h]; rfl, .inl rfl⟩
theorem DictAt.stay {H H' : Hp} {b d : Addr} {m : Ps} (h : DictAt H d m) (s : Stay b H H') (ne : d ≠ b) : DictAt H' d m := ⟨s _ _ ne h.at_, h.nd, h.sym⟩
end Ow
namespace Ow
open PySem PySem.Spec PyProof.Rows L2
theorem seq_cutS {a b : TS} {D : Ends} {σ : L2.St} {H : Hp} (R : L2.St → Hp → Prop) (fin : ∀ σ' H', R σ' H' → b D σ' H') (main : (∀ σ' H', R σ' H' → b D σ' H') → tSeq a b D σ H) : tSeq a b D σ H := main fin
theorem ne_ref {H : Hp} {a b : Addr} {o : HO} (h : H a = some o) (n : H b = none) : a ≠ b := fun z => by rw [z, n] at h; cases h
theorem offs_nd {m : Ps} (x : Str) (h : (m.map (·.1)).Nodup) : ((offs m x).map (·.1)).Nodup := h.sublist (List.filter_sublist.map _)
theorem offs_take {m : Ps} {i : Nat} {x : Str} {q : Str × Int} (h : m[i]? = some q) : offs (m.take (i + 1)) x = offs (m.take i) x ++ if q.1 = x then [] else [q] := by
  rw [take_snoc h, offs_snoc]
theorem offs_len (m : Ps) (x : Str) : (offs m x).length ≤ m.length := List.length_filter_le _ _
end Ow
namespace Ow
open PySem PySem.Spec PyProof.Rows L2
theorem co_mem_bound {m : Ps} {B : Nat} (nd : (m.map (·.1)).Nodup) (h : ∀ q ∈ m, q.2.natAbs ≤ B) (s : Str) : (co m s).natAbs ≤ B := by
  by_cases e : s ∈ m.map (·.1)
  · obtain ⟨q, hq, rfl⟩ := List.mem_map.mp e
    rw [co_in nd hq]
    exact h q hq
  · rw [co_out e]
    exact Nat.zero_le _
theorem ev_bound {v : Str → Int} {A B : Nat} (hv : ∀ s, (v s).natAbs ≤ B) : ∀ {m : Ps}, (∀ q ∈ m, q.2.natAbs ≤ A) → (ev m v).natAbs ≤ m.length * (A * B)
  | [], _ => Nat.zero_le _
  | (x, n) :: m, h => by
    have h1 := ev_bound hv (m := m) fun q hq => h q (List.mem_cons_of_mem _ hq)
    have h2 : (n * v x).natAbs ≤ A * B := by
      rw [Int.natAbs_mul]
      exact Nat.mul_le_mul (h (x, n) List.mem_cons_self) (hv x)
    have h3 := Int.natAbs_add_le (n * v x) (ev m v)
    show (n * v x + ev m v).natAbs ≤ (m.length + 1) * (A * B)
    rw [Nat.add_mul, Nat.one_mul]
    omega
theorem put_value {M1 M2 mT I : Ps} {V : Str → Int} {x : Str} {n1 n2 zz : Int} (hT : ∀ s, co mT s = (if s = x then 0 else co M1 s) + co M2 s * co M1 x) (hI : ∀ s, co I s = if s = x then zz else V s) (hz : zz = n2 + ev M2 V) :
    n1 + n2 * co M1 x + ev mT V = n1 + ev M1 (co I) := by
  have e1 : ev M1 (co I) = co M1 x * zz + ev (offs M1 x) V := by
    rw [show co I = fun s => if s = x then zz else V s from funext hI]
    exact ev_at
  have e2 : ev mT V = ev (offs M1 x) V + co M1 x * ev M2 V := by
    rw [← ev_mul, ← ev_app]
    refine ev_co V fun s => ?_
    rw [hT, co_append, co_mulL, co_offs, Int.mul_comm (co M2 s)]
  rw [e1, e2, hz, Int.mul_add, Int.mul_comm n2]
  omega
theorem mul_bound {a b : Int} {A B : Nat} (ha : a.natAbs ≤ A) (hb : b.natAbs ≤ B) : (a * b).natAbs ≤ A * B := by
  rw [Int.natAbs_mul]
  exact Nat.mul_le_mul ha hb
end Ow

set_option Elab.async false
set_option linter.all false
set_option maxRecDepth 100000
set_option maxHeartbeats 1000000
namespace OpX
open PySem PySem.Spec PyProof.Rows L2
/-- what may stand at the right of == of an instance of C -/
def EqY (C : Addr) (H : Hp) (y : V) : Prop := (∃ i, y = .int i) ∨ (∃ z, y = .str z) ∨ (∃ a dx fs, y = .ref a ∧ H a = some (.ins C dx fs)) ∨ ∃ a xs, y = .ref a ∧ H a = some (.tup xs)
structure EqC (K : PySem.W.Frag) (C : Addr) (f : Addr) : Prop where
  at_ : PySem.W.findIn K (.ref C) "__eq__" = some (some (.ref f))
  fn : PySem.W.isFn K (.ref f) = true
  nI : PySem.W.subIn K (.type "int") (.ref C) = some false
  nS : PySem.W.subIn K (.type "str") (.ref C) = some false
  nT : PySem.W.subIn K (.type "tuple") (.ref C) = some false
structure CalE (P : Program) (w : World) (K : PySem.W.Frag) (mg : Str → Option Value) (base : Heap) (C : Addr) (k : Nat) (sp : Sp) : Prop where
  ex : ∃ (f : Addr) (fd : FuncData) (ps : List Str), EqC K C f ∧ FnOk P w K mg base CX0 k f fd ps sp ∧ Binds K fd ps []
def rEqC (C : Addr) (sp : Sp) : R2 := fun x y H Q => ∃ a dx fs, x = .ref a ∧ H a = some (.ins C dx fs) ∧ EqY C H y ∧ sp [x, y] H Q E0
section
variable {X : Cx} {k : Nat} {sp : Sp} {C : Addr}
theorem eqY_ty {pins : List (Addr × Obj)} {σ : L2.St} {H : Hp} {s : Shared} {f : Addr} {y : V} {v : Value} (O : EqC X.K C f) (I : Inv X pins σ H s) (ry : RelV y v) (h : EqY C H y) :
    ∃ tb, PySem.W.Looks (model X.prog X.w) s.heap (typeOf v) tb ∧ PySem.W.notFirst X.K C tb = true := by
  rcases h with ⟨i, rfl⟩ | ⟨z, rfl⟩ | ⟨a, dx, fs, rfl, ha⟩ | ⟨a, xs, rfl, ha⟩
  · obtain ⟨t, rfl⟩ := (show ∃ t, v = Value.int i t from ry)
    exact ⟨.type "int", PySem.W.Looks.of_pure rfl, by unfold PySem.W.notFirst; rw [O.nI]; simp⟩
  · obtain ⟨t, rfl⟩ := (show ∃ t, v = Value.str z t from ry)
    exact ⟨.type "str", PySem.W.Looks.of_pure rfl, by unfold PySem.W.notFirst; rw [O.nS]; simp⟩
  · obtain rfl : v = Value.ref a := ry
    obtain ⟨mB, J, _⟩ := ins_get I.hok ha
    obtain ⟨od, J, _⟩ := J.look
    exact ⟨.ref C, J.type, by unfold PySem.W.notFirst; simp⟩
  · obtain rfl : v = Value.ref a := ry
    obtain ⟨its, rv, ⟨o, ho, hc, n, hd⟩, _⟩ := I.tuple (SqT.of ha)
    refine ⟨.type "tuple", ?_, by unfold PySem.W.notFirst; rw [O.nT]; simp⟩
    have := (PySem.W.Looks.ld (M := model X.prog X.w) (part := none) ho).andThen (f := fun o => pure o.cls) .now
    rw [hc] at this
    exact this
theorem op_eqC (c : CalE X.prog X.w X.K X.mg X.base C k sp) (hr : Room k X.A) : OpR X (compareOp .Eq) (rEqC C sp) := by
  intro pins s σ H x y v u Q I rx ry h
  obtain ⟨f, fd, ps, O, F, hb⟩ := c.ex
  obtain ⟨a, dx, fs, rfl, ha, hy, hsp⟩ := h
  obtain rfl : v = Value.ref a := rx
  obtain ⟨mA, J, _⟩ := ins_get I.hok ha
  obtain ⟨od, J, _⟩ := J.look
  obtain ⟨m, hF⟩ := I.fr
  obtain ⟨tb, ht, hn⟩ := eqY_ty O I ry hy
  show wpAny (model X.prog X.w) X.A (richCompare .Eq (.ref a) u) (EP X pins σ Q) X.xe s
  refine PySem.W.cmp_K (op := .Eq) (tb := tb) hr.units0 hF I.ok.mod.kin J ht hn O.at_ O.fn ?_
  refine thn (run_fn (Q := Q) (us := [.ref a, u]) (vs := [.ref a, y]) F hr hb .nil pass0 I (.cons rfl (.cons ry .nil)) (by rw [List.append_nil]; exact hsp)) fun w' s' hh => ?_
  obtain ⟨z, H', I', rz, q⟩ := hh
  exact back rz ⟨z, H', I', rz, q⟩
end
end OpX

set_option Elab.async false
set_option linter.all false
set_option maxRecDepth 100000
set_option maxHeartbeats 1000000
namespace OpX
open PySem PySem.Spec PyProof.Rows L2
/-- what != of an instance without an own __ne__ needs beside its __eq__ -/
structure NeC (K : PySem.W.Frag) (C : Addr) : Prop where
  at_ : PySem.W.findIn K (.ref C) "__ne__" = some (some (.builtin "object.__ne__"))
  obj : PySem.W.mroIn K C (.type "object") = some true
section
variable {prog : Program} {w : World} {A : Around} {E : Value → Shared → Prop} {s : Shared} {K : PySem.W.Frag} {x C f : Addr} {ox od : Obj} {b : Value}
open Builtin in
theorem ne_body (KX : K.In s.heap) (I : PySem.W.InstAt s.heap x ox C od) (O : EqC K C f) (hu : A.units < cLine) {Q : Fin → Shared → Prop}
    (h : wpAny (model prog w) A (call (.ref f) [.ref x, b]) (fun v s' => ∃ r, v = .bool r ∧ Q (.done (.ret (.bool (!r)))) s') E s) :
    wpAny (model prog w) A (Builtin.«object.__ne__» ⟨[.ref x, b], []⟩) Q E s := by
  have one : wpAny (model prog w) A (callSpecialIfBound? (.ref x) (Str.ofString "__eq__") [b]) (fun v s' => ∃ r, v = some (.bool r) ∧ Q (.done (.ret (.bool (!r)))) s') E s :=
    PySem.W.ifBound_K KX I O.at_ O.fn (wpAny_mono h (fun v s' hv => by
      obtain ⟨r, rfl, q⟩ := hv
      exact ⟨r, rfl, q⟩) fun _ _ e => e)
  unfold Builtin.«object.__ne__»
  obtain ⟨hh, g, d, tt, os⟩ := s
  repeat (first
    | with_reducible refine wpAny_cRoomFor hu ?_
    | (refine wpAny_bind (m := callSpecialIfBound? (.ref x) (Str.ofString "__eq__") [b]) (wpAny_mono one (fun r s' hr => by
        obtain ⟨r, rfl, hq⟩ := hr
        repeat (first | exact hq | exact wpAny_pure hq | exact wpAny_truthy_bool hq | (refine wpAny_bind (m := truthy (.bool _)) (wpAny_truthy_bool ?_)) | wp_step)) fun _ _ e => e))
    | wp_step)
theorem ne_check (KX : K.In s.heap) (I : PySem.W.InstAt s.heap x ox C od) (N : NeC K C) {Q : Unit → Shared → Prop} (hq : Q () s) : wpAny (model prog w) A (checkBuiltinCall "object.__ne__" ⟨[.ref x, b], []⟩) Q E s := by
  have ha := F.cmpArgs_ne (.ref x) b
  simp only [checkBuiltinCall, F.cmpKind_ne, F.cmpSplit_ne]
  obtain ⟨hh, g, d, tt, os⟩ := s
  have l1 : PySem.W.Looks (model prog w) hh (typeOf (.ref x)) (.ref C) := I.type
  have l2 : PySem.W.Looks (model prog w) hh (isSubtype (.ref C) (.type "object")) true := PySem.W.looks_mroIn KX N.obj
  refine wpAny_bind ?_
  unfold isInstance
  refine wpAny_bind (l1.at (l2.at ?_))
  simp only [Bool.not_true, Bool.false_eq_true, if_false]
  cases hsig : Manifest.signature? "object.__ne__" with
  | none => exact wpAny_pure hq
  | some sig =>
    simp only [argsOk, hsig] at ha
    have h2 : Bind.checkArgs "object.__ne__" sig ⟨[.ref x, b], []⟩ = pure () := ha
    show wpAny _ A (Bind.checkArgs "object.__ne__" sig ⟨[.ref x, b], []⟩) Q E _
    rw [h2]
    exact wpAny_pure hq
open PySem.W in
/-- the look for __ne__ ends at object's -/
theorem ne_bound {M : Model} {Q : Option Value → Shared → Prop} (KX : K.In s.heap) (I : InstAt s.heap x ox C od) (N : NeC K C) (h : wpAny M A (call (.builtin "object.__ne__") [.ref x, b]) (fun v => Q (some v)) E s) : wpAny M A (callSpecialIfBound? (.ref x) "__ne__" [b]) Q E s := by
  have S := F.slot_zip_ne
  simp only [callSpecialIfBound?, bindSpecialIfBound?]
  refine wpAny_holding (wpAny_bind (wpAny_bind (wpAny_bind (I.type.here ((looks_findIn KX N.at_).here ?_)))))
  simp only [S.bind]
  refine wpAny_bind (wpAny_askSetting (wpAny_ite ?_))
  have fin : wpAny M A (call (.builtin "object.__ne__") ([.ref x] ++ [b]) >>= fun v => pure (some v)) Q E s := wpAny_bind (wpAny_mono h (fun v s' h' => wpAny_pure h') fun _ _ h' => h')
  split
  · exact wpAny_bind (wpAny_pure (wpAny_pure fin))
  · exact wpAny_tryCatch (wpAny_bind (wpAny_pure (wpAny_pure fin)))
end
section
variable {X : Cx} {k : Nat} {sp : Sp} {C : Addr}
def rNeC (C : Addr) (sp : Sp) : R2 := fun x y H Q => ∃ a dx fs, x = .ref a ∧ H a = some (.ins C dx fs) ∧ EqY C H y ∧ sp [x, y] H (fun v H' => ∃ r, v = .bl r ∧ Q (.bl (!r)) H') E0
theorem op_neC (c : CalE X.prog X.w X.K X.mg X.base C k sp) (N : NeC X.K C) (hr : Room (k + 1) X.A) : OpR X (compareOp .NotEq) (rNeC C sp) := by
  intro pins s σ H x y v u Q I rx ry h
  obtain ⟨f, fd, ps, O, F, hb⟩ := c.ex
  obtain ⟨a, dx, fs, rfl, ha, hy, hsp⟩ := h
  obtain rfl : v = Value.ref a := rx
  obtain ⟨mA, J, _⟩ := ins_get I.hok ha
  obtain ⟨od, J, _⟩ := J.look
  obtain ⟨tb, ht, hn⟩ := eqY_ty O I ry hy
  show wpAny (model X.prog X.w) X.A (richCompare .NotEq (.ref a) u) (EP X pins σ Q) X.xe s
  have call1 : wpAny (model X.prog X.w) X.A.in1 (call (.ref f) [.ref a, u]) (fun v s' => ∃ r, v = .bool r ∧ EP X pins σ Q (.bool (!r)) s') X.xe s := by
    refine thn (run_in1 (us := [.ref a, u]) (vs := [.ref a, y]) F hr hb pass0 I (.cons rfl (.cons ry .nil)) hsp) fun w' s' hh => ?_
    obtain ⟨z, H', I', rz, r, rfl, q⟩ := hh
    cases rz
    exact ⟨r, rfl, .bl (!r), H', I', rfl, q⟩
  have one : wpAny (model X.prog X.w) X.A (tryCompare (.ref a) "__ne__" u) (fun r s' => ∃ v, r = some v ∧ EP X pins σ Q v s') X.xe s := by
    unfold tryCompare
    refine wpAny_bind (ne_bound I.kIn J N (wpAny_call (codeAny_call_builtin PySem.F.slot_zip_ne.plain PySem.F.cmpEntry_ne (ne_check I.kIn J N ?_))))
    refine ne_body (A := X.A.in1) I.kIn J O (by have := hr.un; show X.A.units + 1 < _; omega) (wpAny_mono call1 (fun v s' hv => ?_) fun _ _ e => e)
    obtain ⟨r, rfl, q⟩ := hv
    refine ⟨r, rfl, ?_⟩
    first
    | exact wpAny_pure ⟨_, rfl, q⟩
    | exact ⟨_, rfl, q⟩
  unfold richCompare
  simp only [PySem.oneThing_ref]
  refine wpAny_holding (wpAny_bind (wpAny_cRoomFor hr.units0 ?_))
  refine wpAny_bind (J.type.here (wpAny_bind (ht.here ?_)))
  split
  · rename_i q
    have e : PySem.W.subIn X.K tb (.ref C) = some false := by
      rcases Bool.or_eq_true_iff.mp hn with e | e
      · rw [beq_iff_eq.mp e] at q
        simp at q
      · exact beq_iff_eq.mp e
    refine wpAny_bind ((PySem.W.looks_subIn I.kIn e).here ?_)
    simp only [Bool.false_eq_true, if_false]
    refine wpAny_bind (wpAny_mono one (fun r s' z => ?_) fun _ _ e => e)
    obtain ⟨v, rfl, hq⟩ := z
    exact wpAny_pure hq
  · refine wpAny_bind (wpAny_pure ?_)
    simp only [Bool.false_eq_true, if_false]
    refine wpAny_bind (wpAny_mono one (fun r s' z => ?_) fun _ _ e => e)
    obtain ⟨v, rfl, hq⟩ := z
    exact wpAny_pure hq
end
end OpX

set_option Elab.async false
set_option linter.all false
set_option maxRecDepth 100000
set_option maxHeartbeats 1000000
namespace OpX
open PySem PySem.Spec PyProof.Rows L2
section
variable {X : Cx} {k : Nat} {sp : Sp} {C : Addr} {o i e : Expr} {to ti te : TE} {pos : Pos}
/-- .. run two builtins deeper -/
theorem run_in2 {CX : CXT} {f : Addr} {fd : FuncData} {ps : List Str} {E : XK} {pins : List (Addr × Obj)} {σ : L2.St} {H : Hp} {s : Shared} {Q : VK} {us : List Value} {vs : List V} (F : FnOk X.prog X.w X.K X.mg X.base CX k f fd ps sp) (hr : Room (k + 1 + 1) X.A) (hb : Binds X.K fd ps [])
    (hx : Passes CX X E) (I : Inv X pins σ H s) (r : Vals vs us) (h : sp vs H Q E) : wpAny (model X.prog X.w) X.A.in1.in1 (call (.ref f) us) (EP X pins σ Q) X.xe s := by
  have hl : us.length = ps.length := by rw [← r.length]; exact F.len _ _ _ _ h
  have hb' := hb s us I.kIn (by rw [List.append_nil]; exact hl)
  rw [List.append_nil] at hb'
  refine wpAny_call (codeAny_mono (F.run X.A.in1.in1 X.stack s H ⟨us, []⟩ us vs Q E hr.in1.in1 I.env0.in1.in1 hb' r h) fun r s' hq => ?_)
  cases r with
  | error e => exact hx pins σ H s e s' I hq
  | ok fl =>
    cases fl with
    | ret u => exact I.after hq
    | next => exact False.elim hq
    | brk => exact False.elim hq
    | cont => exact False.elim hq
/-- str(o) of a class with an own __str__ -/
theorem call_strC (c : CalG X.prog X.w X.K X.mg X.base C "__str__" k sp) (hr : Room (k + 1 + 1) X.A) : CallR X (.type "str") (fun xs H Q => ∃ a dx fs, xs = [.ref a] ∧ H a = some (.ins C dx fs) ∧ sp [.ref a] H (fun v H' => ∃ z, v = .str z ∧ Q v H') E0) := by
  intro pins s σ H xs us Q I r h
  obtain ⟨f, fd, ps, hs, hf, hfn, F, hb⟩ := c.ex
  obtain ⟨a, dx, fs, rfl, ha, hsp⟩ := h
  obtain ⟨u, rfl, rx⟩ := vals1 r
  obtain rfl : u = Value.ref a := rx
  obtain ⟨mA, J, _⟩ := ins_get I.hok ha
  obtain ⟨od, J, _⟩ := J.look
  refine PySem.W.kso_call (hr.in1.in1.units0) I.kIn J hs hf (thn (run_in2 F hr hb pass0 I (us := [.ref a]) (vs := [.ref a]) (.cons rfl .nil) hsp) fun v s' z => ?_)
  obtain ⟨x, H', I', rx, zz, rfl, q⟩ := z
  obtain ⟨t, rfl⟩ := (show ∃ t, v = Value.str zz t from rx)
  exact ⟨.str zz, H', I', ⟨t, rfl⟩, q⟩
/-- xs[::-1] of a list -/
def tRevL (K : PySem.W.Frag) (te : TE) (tk : TO) : TE := fun σ H Q => te σ H fun x H1 => tk σ H1 fun l H2 => l = some (-1) ∧ ∃ a xs, x = .ref a ∧ SqL K H2 a xs ∧ ∀ p, H2 p = none → Q (.ref p) (upd H2 p (.lst xs.reverse))
theorem pe_rev {st : Option Expr} {tk : TO} {p2 : Pos} (he : PE X e te) (hk : PO X st tk) (hs : ∀ a sl, subscripted (.Slice none none st p2) false (.ref a) (.ref sl) = operate [.ref a, .ref sl] (getItem (.ref a) (.ref sl)) := by intro _ _; with_unfolding_all rfl) : PE X (.Subscript e (.Slice none none st p2) pos) (tRevL X.K te tk) := by
  refine ⟨fun pins s σ H Q I h => ?_⟩
  refine Subscript_ (thn (he.run pins s σ H _ I h) fun v s1 ⟨x, H1, I1, r1, q1⟩ => ?_)
  refine wpAny_Slice ?_
  rw [evalPart_none]
  refine wpAny_pure (wpAny_pure ?_)
  refine thn (hk.run pins s1 σ H1 _ I1 q1) fun vk s2 ⟨l, H2, I2, pk, el, a, xs, ex, hx, q2⟩ => ?_
  subst el ex
  obtain rfl : v = Value.ref a := r1
  have I4 : Inv X pins σ H2 { s2 with heap := s2.heap.push { cls := .type "slice", data := .fields #[.none, .none, vk] } } := I2.kept (t' := s2.toks) fun b ob q => Heap.get?_push_of_some _ q
  obtain ⟨its, r, ht, hz⟩ := I4.list hx
  refine tail_any (ops := [.ref a, .ref s2.heap.objs.size]) ht.isList.typeIs slot_list_getitem.lookup ?_ (hs _ _)
  refine wpAny_getItem_list_slice ht.isList (Heap.IsSliceOf.new ..) .none .none pk (by simp) ?_ (by rw [List.size_toArray]; have := r.length; omega)
  rw [PySem.W.krv_pick]
  refine ⟨.ref _, _, I4.laid (t' := s2.toks) (o := .lst xs.reverse) (fun b ob q => Heap.get?_push_of_some _ q) (Nat.le_refl _) ?_, rfl, q2 _ (I4.hok.fresh (Nat.le_refl _))⟩
  refine ⟨by rw [List.length_reverse]; exact hz, _, 0, r.reverse, Heap.get?_push_size _ rfl⟩
end
end OpX

set_option Elab.async false
set_option linter.all false
set_option maxRecDepth 100000
set_option maxHeartbeats 1000000
namespace OpX
open PySem PySem.Spec PyProof.Rows L2
/-- int == an instance: int's own says NotImplemented -/
theorem int_eq_inst {prog : Program} {w : World} {A : Around} {E : Value → Shared → Prop} {s : Shared} {i : Int} {t : Tok} {b : Addr} {ob : Obj} {Q : Value → Shared → Prop} (h1 : s.heap.get? b = some ob) (h2 : ob.data = .plain) (hq : Q .notImplemented s) :
    wpAny (model prog w) A (call (.builtin "int.__eq__") [.int i t, .ref b]) Q E s := by
  refine GQ.call_here F.slot_int_eq rfl F.entry_int_eq (F.args_int_eq_2 _ _) ?_
  show wpAny _ _ (Builtin.Int.intBinary "__eq__" (fun x y => PySem.ret (.bool (x == y))) false ⟨[.int i t, .ref b], []⟩) _ _ _
  unfold Builtin.Int.intBinary
  refine wpAny_bind (wpAny_of_eq (a := (Value.int i t, [Value.ref b])) (by first | rfl | kernel_rfl) ?_)
  refine wpAny_bind (wpAny_of_eq (a := i) (by first | rfl | kernel_rfl) ?_)
  refine wpAny_bind (asInt_inst h1 h2 ?_)
  exact wpAny_bind (wpAny_rule (wpAny_pure hq))
section
variable {X : Cx} {k : Nat} {sp : Sp} {C : Addr}
def rEqRev (C : Addr) (sp : Sp) : R2 := fun x y H Q => ∃ i a dx fs, x = .int i ∧ y = .ref a ∧ H a = some (.ins C dx fs) ∧ sp [y, x] H Q E0
open PySem.W in
theorem op_eqRev (c : CalE X.prog X.w X.K X.mg X.base C k sp) (sb : PySem.W.subIn X.K (.ref C) (.type "int") = some false) (hr : Room k X.A) : OpR X (compareOp .Eq) (rEqRev C sp) := by
  intro pins s σ H x y v u Q I rx ry h
  obtain ⟨f, fd, ps, O, F, hb⟩ := c.ex
  obtain ⟨i, a, dx, fs, rfl, rfl, ha, hsp⟩ := h
  obtain rfl : u = Value.ref a := ry
  obtain ⟨t, rfl⟩ := (show ∃ t, v = Value.int i t from rx)
  obtain ⟨mA, J, _⟩ := ins_get I.hok ha
  have hat := J.obj
  obtain ⟨od, J, _⟩ := J.look
  have KX := I.kIn
  have hcall : wpAny (model X.prog X.w) X.A (call (.ref f) [.ref a, .int i t]) (PySem.W.CmpBack (EP X pins σ Q)) X.xe s := by
    refine thn (run_fn (Q := Q) (us := [.ref a, .int i t]) (vs := [.ref a, .int i]) F hr hb .nil pass0 I (.cons rfl (.cons rx .nil)) (by rw [List.append_nil]; exact hsp)) fun w' s' hh => ?_
    obtain ⟨z, H', I', rz, q⟩ := hh
    exact back rz ⟨z, H', I', rz, q⟩
  have one : wpAny (model X.prog X.w) X.A (tryCompare (.ref a) (cmpInfo .Eq).2.1 (.int i t)) (fun r s' => ∃ v, r = some v ∧ EP X pins σ Q v s') X.xe s := by
    unfold tryCompare
    refine wpAny_bind (ifBound_K KX J O.at_ O.fn (wpAny_mono hcall (fun v s' hv => ?_) fun _ _ e => e))
    cases v <;> first | exact hv.elim | exact wpAny_pure ⟨_, rfl, hv⟩
  have first : ∀ {Q' : Option Value → Shared → Prop}, Q' none s → wpAny (model X.prog X.w) X.A (tryCompare (.int i t) (cmpInfo .Eq).2.1 (.ref a)) Q' X.xe s := fun {Q'} q => by
    unfold tryCompare
    refine wpAny_bind (wpAny_callSpecialIfBound?_slot (T := "int") rfl PySem.F.slot_int_eq ?_)
    exact int_eq_inst hat rfl (wpAny_pure q)
  show wpAny (model X.prog X.w) X.A (richCompare .Eq (.int i t) (.ref a)) (EP X pins σ Q) X.xe s
  unfold richCompare
  refine wpAny_holding (wpAny_bind (wpAny_cRoomFor hr.units0 ?_))
  have L1 : Looks (model X.prog X.w) s.heap (typeOf (.ref a)) (.ref C) := J.type
  have L5 : Looks (model X.prog X.w) s.heap (isSubtype (.ref C) (.type "int")) false := looks_subIn KX sb
  have L0 : Looks (model X.prog X.w) s.heap (typeOf (.int i t)) (.type "int") := Looks.of_pure rfl
  have hne0 : (Value.type "int" == Value.ref C) = false := Bool.eq_false_iff.mpr fun q => by cases beq_iff_eq.mp q
  have hne : (Value.type "int" != Value.ref C) = true := by
    show (!(Value.type "int" == Value.ref C)) = true
    rw [hne0]
    rfl
  show wpAny _ _ (typeOf (.int i t) >>= fun ta => _) _ _ _
  refine wpAny_bind (L0.here (wpAny_bind (L1.here ?_)))
  rw [hne]
  simp only [if_true]
  refine wpAny_bind (L5.here ?_)
  simp only [Bool.false_eq_true, if_false]
  refine wpAny_bind (first ?_)
  dsimp only
  refine wpAny_bind (wpAny_mono one (fun r s' z => ?_) fun _ _ e => e)
  obtain ⟨v, rfl, hq⟩ := z
  exact wpAny_pure hq
end
/-- dicts of texts and ints compared -/
def rEqDI : R2 := fun x y H Q => ∃ a b m m2, x = .ref a ∧ y = .ref b ∧ H a = some (.dK (Ow.kvI m)) ∧ H b = some (.dK (Ow.kvI m2)) ∧ ∀ r : Bool, (r = true ↔ m.length = m2.length ∧ ∀ q ∈ m, valV (Ow.kvI m2) (Sum.inr q.1) = some (.int q.2)) → Q (.bl r) H
theorem kvI_int {k : Key} {v : V} : ∀ {m : Ow.Ps}, valV (Ow.kvI m) k = some v → ∃ i, v = .int i
  | [], h => by cases h
  | (x, n) :: m, h => by
    have h : valV (((Sum.inr x : Key), V.int n) :: Ow.kvI m) k = some v := h
    by_cases e : (Sum.inr x : Key) = k
    · rw [valV_pos e] at h
      cases h
      exact ⟨n, rfl⟩
    · rw [valV_neg e] at h
      exact kvI_int h
theorem hits_int {A : Around} {s : Shared} {m2 : Ow.Ps} {vb : List (Key × Value)} (rb : KV (Ow.kvI m2) vb) : ∀ {m : Ow.Ps} {va : List (Key × Value)}, KV (Ow.kvI m) va → ∃ r, PySem.W.KeqHits A s vb va r ∧ (r = true ↔ ∀ q ∈ m, valV (Ow.kvI m2) (Sum.inr q.1) = some (.int q.2))
  | [], va, ra => by
    cases ra
    exact ⟨true, .nil, by simp⟩
  | (x, n) :: m, va, ra => by
    have ra' : Paired (fun (p : Key × V) (q : Key × Value) => p.1 = q.1 ∧ RelV p.2 q.2) ((Sum.inr x, V.int n) :: Ow.kvI m) va := ra
    cases ra' with
    | @cons _ q _ qs h t =>
      obtain ⟨k, v⟩ := q
      obtain ⟨h1, h2⟩ := h
      obtain rfl : (Sum.inr x : Key) = k := h1
      obtain ⟨tt, rfl⟩ := (show ∃ tt, v = Value.int n tt from h2)
      obtain ⟨r, hr, hiff⟩ := hits_int (A := A) (s := s) rb (m := m) (va := qs) t
      have rr := rb.val (Sum.inr x)
      cases e : valV (Ow.kvI m2) (Sum.inr x) with
      | none =>
        rw [e] at rr
        refine ⟨false, .miss (by cases q : valueAt vb (Sum.inr x) with | none => rfl | some y => rw [q] at rr; exact rr.elim), ?_⟩
        constructor
        · intro z
          cases z
        · intro z
          have := z (x, n) List.mem_cons_self
          rw [e] at this
          cases this
      | some v2 =>
        obtain ⟨n2, rfl⟩ := kvI_int e
        rw [e] at rr
        obtain ⟨y, hy, ry⟩ := rr.some_of
        obtain ⟨t2, rfl⟩ := (show ∃ t2, y = Value.int n2 t2 from ry)
        refine ⟨(n == n2) && r, .hit hy (SeqAt.EqAt.int_int n tt n2 t2) hr, ?_⟩
        rw [Bool.and_eq_true, beq_iff_eq, hiff]
        constructor
        · rintro ⟨z1, z2⟩ q hq
          rcases List.mem_cons.mp hq with rfl | hq
          · rw [e, z1]
          · exact z2 q hq
        · intro z
          refine ⟨?_, fun q hq => z q (List.mem_cons_of_mem _ hq)⟩
          have := z (x, n) List.mem_cons_self
          rw [e] at this
          injection this with this
          injection this with this
          exact this.symm
theorem op_eq_dictI {X : Cx} (hu : X.A.units < cLine) : OpR X (compareOp .Eq) rEqDI := by
  intro pins s σ H x y v u Q I rx ry h
  obtain ⟨a, b, m, m2, rfl, rfl, ea, eb, q⟩ := h
  obtain rfl : v = Value.ref a := rx
  obtain rfl : u = Value.ref b := ry
  obtain ⟨_, ya, va, ra, da⟩ := (show ObjOk X.prog X.w H s.heap a (.dK (Ow.kvI m)) from I.hok a _ ea)
  obtain ⟨_, yb, vb, rb, db⟩ := (show ObjOk X.prog X.w H s.heap b (.dK (Ow.kvI m2)) from I.hok b _ eb)
  obtain ⟨r, hr, hiff⟩ := hits_int (A := X.A.in1) (s := s) rb ra
  have la : va.length = m.length := by rw [← ra.length, Ow.kvI_len]
  have lb : vb.length = m2.length := by rw [← rb.length, Ow.kvI_len]
  refine PySem.W.keq_eq (knd := mixKind X.prog X.w) (r := r) ya yb da db hu (fun _ => hr) (fin_bl I (q (decide (m.length = m2.length) && r) ?_) (by rw [la, lb]; rfl))
  rw [Bool.and_eq_true, decide_eq_true_iff, hiff]
end OpX

set_option Elab.async false
set_option linter.all false
set_option maxRecDepth 100000
set_option maxHeartbeats 1000000
namespace OpX
open PySem PySem.Spec PyProof.Rows L2
section
variable {X : Cx} {k : Nat} {sp : Sp} {C : Addr}
/-- x in o, by o's own __contains__ that answers True or False -/
def rInC (neg : Bool) (C : Addr) (sp : Sp) : R2 := fun x y H Q => ∃ a dx fs, y = .ref a ∧ H a = some (.ins C dx fs) ∧ sp [y, x] H (fun v H' => ∃ r, v = .bl r ∧ Q (.bl (if neg then !r else r)) H') E0
theorem run_inC {neg : Bool} (c : CalG X.prog X.w X.K X.mg X.base C "__contains__" k sp) (hr : Room k X.A) {pins : List (Addr × Obj)} {σ : L2.St} {H : Hp} {s : Shared} {Q : VK} {x : V} {u : Value} {a dx : Addr} {fs : List (Str × V)} (I : Inv X pins σ H s) (rx : RelV x u) (ha : H a = some (.ins C dx fs))
    (h : sp [.ref a, x] H (fun v H' => ∃ r, v = .bl r ∧ Q (.bl (if neg then !r else r)) H') E0) (f : Addr) (fd : FuncData) (ps : List Str) (F : FnOk X.prog X.w X.K X.mg X.base CX0 k f fd ps sp) (hb : Binds X.K fd ps []) :
    wpAny (model X.prog X.w) X.A (call (.ref f) [.ref a, u]) (fun r s' => wpAny (model X.prog X.w) X.A (truthy r) (fun b => EP X pins σ Q (.bool (if neg then !b else b))) X.xe s') X.xe s := by
  refine thn (run_fn (us := [.ref a, u]) (vs := [.ref a, x]) F hr hb .nil pass0 I (.cons rfl (.cons rx .nil)) (by rw [List.append_nil]; exact h)) fun w' s' hh => ?_
  obtain ⟨z, H', I', rz, r, rfl, q⟩ := hh
  obtain rfl : w' = Value.bool r := rz
  exact wpAny_truthy_bool ⟨.bl (if neg then !r else r), H', I', rfl, q⟩
theorem op_inC (c : CalG X.prog X.w X.K X.mg X.base C "__contains__" k sp) (hr : Room k X.A) : OpR X (compareOp .In) (rInC false C sp) := by
  intro pins s σ H x y v u Q I rx ry h
  obtain ⟨a, dx, fs, rfl, ha, hsp⟩ := h
  obtain rfl : u = Value.ref a := ry
  obtain ⟨f, fd, ps, hs, hf, hfn, F, hb⟩ := id c.ex
  obtain ⟨mA, J, _⟩ := ins_get I.hok ha
  obtain ⟨od, J, _⟩ := J.look
  obtain ⟨m, hF⟩ := I.fr
  exact PySem.W.in_K hF I.ok.mod.kin J hs hf (run_inC (neg := false) c hr I rx ha hsp f fd ps F hb)
theorem op_notInC (c : CalG X.prog X.w X.K X.mg X.base C "__contains__" k sp) (hr : Room k X.A) : OpR X (compareOp .NotIn) (rInC true C sp) := by
  intro pins s σ H x y v u Q I rx ry h
  obtain ⟨a, dx, fs, rfl, ha, hsp⟩ := h
  obtain rfl : u = Value.ref a := ry
  obtain ⟨f, fd, ps, hs, hf, hfn, F, hb⟩ := id c.ex
  obtain ⟨mA, J, _⟩ := ins_get I.hok ha
  obtain ⟨od, J, _⟩ := J.look
  obtain ⟨m, hF⟩ := I.fr
  exact PySem.W.notIn_K hF I.ok.mod.kin J hs hf (run_inC (neg := true) c hr I rx ha hsp f fd ps F hb)
end
end OpX

set_option Elab.async false
set_option linter.all false
set_option maxRecDepth 100000
set_option maxHeartbeats 1000000
namespace Ow
open PySem PySem.Spec PyProof.Rows L2
/-! ### dicts of texts -/
abbrev Ws := List (Str × Str)
def kvT (m : Ws) : List (Key × V) := m.map fun p => (Sum.inr p.1, V.str p.2)
def wo : Ws → Str → Str
  | [], _ => ""
  | (x, u) :: r, s => if x = s then u else wo r s
def putW : Ws → Str → Str → Ws
  | [], s, v => [(s, v)]
  | (x, u) :: r, s, v => if x = s then (x, v) :: r else (x, u) :: putW r s v
theorem kvT_len (m : Ws) : (kvT m).length = m.length := List.length_map _
theorem wo_in : ∀ {a : Ws} {q : Str × Str}, (a.map (·.1)).Nodup → q ∈ a → wo a q.1 = q.2
  | (x, v) :: r, q, hn, hq => by
    rw [List.map_cons, List.nodup_cons] at hn
    show (if x = q.1 then v else wo r q.1) = q.2
    rcases List.mem_cons.mp hq with rfl | hq
    · rw [if_pos rfl]
    · have : x ≠ q.1 := fun e => hn.1 (e ▸ List.mem_map.mpr ⟨q, hq, rfl⟩)
      rw [if_neg this, wo_in hn.2 hq]
theorem wo_mem : ∀ {a : Ws} {s : Str}, s ∈ a.map (·.1) → (s, wo a s) ∈ a
  | (x, v) :: r, s, h => by
    show (s, if x = s then v else wo r s) ∈ _
    by_cases e : x = s
    · subst e
      rw [if_pos rfl]
      exact List.mem_cons_self
    · rw [if_neg e]
      rw [List.map_cons, List.mem_cons] at h
      exact List.mem_cons_of_mem _ (wo_mem (h.resolve_left (Ne.symm e)))
theorem putW_keys : ∀ (m : Ws) (s : Str) (v : Str), (putW m s v).map (·.1) = m.map (·.1) ∨ (s ∉ m.map (·.1) ∧ (putW m s v).map (·.1) = m.map (·.1) ++ [s])
  | [], s, v => .inr ⟨by simp, rfl⟩
  | (x, u) :: r, s, v => by
    unfold putW
    by_cases e : x = s
    · rw [if_pos e]
      exact .inl rfl
    · rw [if_neg e]
      rcases putW_keys r s v with h | ⟨h1, h2⟩
      · exact .inl (by rw [List.map_cons, List.map_cons, h])
      · refine .inr ⟨?_, by rw [List.map_cons, List.map_cons, h2]; rfl⟩
        rw [List.map_cons, List.mem_cons, not_or]
        exact ⟨Ne.symm e, h1⟩
theorem putW_nodup {m : Ws} (s : Str) (v : Str) (h : (m.map (·.1)).Nodup) : ((putW m s v).map (·.1)).Nodup := by
  rcases putW_keys m s v with e | ⟨e1, e2⟩
  · rw [e]; exact h
  · rw [e2, List.nodup_append]
    refine ⟨h, by simp, fun a ha b hb e => ?_⟩
    rw [List.mem_singleton.mp hb] at e
    exact e1 (e ▸ ha)
theorem putW_len (m : Ws) (s : Str) (v : Str) : (putW m s v).length ≤ m.length + 1 := by
  rcases putW_keys m s v with e | ⟨_, e⟩
  · have := congrArg List.length e
    rw [List.length_map, List.length_map] at this
    omega
  · have := congrArg List.length e
    rw [List.length_map, List.length_append, List.length_map] at this
    simp only [List.length_cons, List.length_nil] at this
    omega
theorem putW_mem : ∀ {m : Ws} {s v : Str} {q : Str × Str}, q ∈ putW m s v → q ∈ m ∨ q = (s, v)
  | [], s, v, q, h => .inr (List.mem_singleton.mp h)
  | (x, u) :: r, s, v, q, h => by
    unfold putW at h
    by_cases e : x = s
    · rw [if_pos e] at h
      rcases List.mem_cons.mp h with h | h
      · exact .inr (by rw [h, e])
      · exact .inl (List.mem_cons_of_mem _ h)
    · rw [if_neg e] at h
      rcases List.mem_cons.mp h with h | h
      · exact .inl (h ▸ List.mem_cons_self)
      · rcases putW_mem h with h | h
        · exact .inl (List.mem_cons_of_mem _ h)
        · exact .inr h
theorem putW_new : ∀ (m : Ws) (s : Str) (v : Str), s ∉ m.map (·.1) → putW m s v = m ++ [(s, v)]
  | [], _, _, _ => rfl
  | (x, u) :: r, s, v, h => by
    rw [List.map_cons, List.mem_cons, not_or] at h
    unfold putW
    rw [if_neg (Ne.symm h.1), putW_new r s v h.2]
    rfl
theorem kvT_any : ∀ (m : Ws) (s : Str), ((kvT m).any fun kv => decide (kv.1 = Sum.inr s)) = decide (s ∈ m.map (·.1))
  | [], s => by simp [kvT]
  | (x, u) :: r, s => by
    show (decide ((Sum.inr x : Key) = Sum.inr s) || (kvT r).any fun kv => decide (kv.1 = Sum.inr s)) = _
    rw [kvT_any r s, key_rr]
    by_cases e : x = s
    · subst e; simp
    · have : ¬ s = x := Ne.symm e
      simp [e, this]
theorem kvT_upd : ∀ (m : Ws) (s : Str) (v : Str), s ∈ m.map (·.1) → (m.map (·.1)).Nodup → (kvT m).map (fun kv => if kv.1 = Sum.inr s then (kv.1, V.str v) else kv) = kvT (putW m s v)
  | (x, u) :: r, s, v, h, hn => by
    rw [List.map_cons, List.nodup_cons] at hn
    show (if (Sum.inr x : Key) = Sum.inr s then ((Sum.inr x : Key), V.str v) else (Sum.inr x, V.str u)) :: (kvT r).map _ = kvT (if x = s then (x, v) :: r else (x, u) :: putW r s v)
    by_cases e : x = s
    · subst e
      rw [if_pos rfl, if_pos rfl]
      have hx : ∀ (l : Ws), x ∉ l.map (·.1) → (kvT l).map (fun kv => if kv.1 = (Sum.inr x : Key) then (kv.1, V.str v) else kv) = kvT l := fun l => by
        induction l with
        | nil => intro _; rfl
        | cons p l ih =>
          obtain ⟨y, z⟩ := p
          intro hl
          rw [List.map_cons, List.mem_cons, not_or] at hl
          show (if (Sum.inr y : Key) = Sum.inr x then ((Sum.inr y : Key), V.str v) else ((Sum.inr y : Key), V.str z)) :: ((kvT l).map fun kv => if kv.1 = (Sum.inr x : Key) then (kv.1, V.str v) else kv) = _
          rw [if_neg (fun q => hl.1 (Sum.inr.inj q).symm), ih hl.2]
          rfl
      rw [hx r hn.1]
      rfl
    · rw [if_neg (fun q => e (Sum.inr.inj q)), if_neg e]
      rw [List.map_cons, List.mem_cons] at h
      rw [kvT_upd r s v (h.resolve_left (Ne.symm e)) hn.2]
      rfl
theorem kvT_put {m : Ws} (s : Str) (v : Str) (hn : (m.map (·.1)).Nodup) : putK (kvT m) (Sum.inr s) (V.str v) = kvT (putW m s v) := by
  unfold putK
  rw [kvT_any]
  by_cases h : s ∈ m.map (·.1)
  · rw [if_pos (by simpa using h), kvT_upd m s v h hn]
  · rw [if_neg (by simpa using h), putW_new m s v h]
    unfold kvT
    rw [List.map_append]
    rfl
theorem kvT_get : ∀ {m : Ws} {s : Str}, s ∈ m.map (·.1) → valV (kvT m) (Sum.inr s) = some (V.str (wo m s))
  | (x, u) :: r, s, h => by
    show valV (((Sum.inr x : Key), V.str u) :: kvT r) (Sum.inr s) = some (V.str (if x = s then u else wo r s))
    by_cases e : x = s
    · subst e
      rw [valV_pos rfl, if_pos rfl]
    · rw [List.map_cons, List.mem_cons] at h
      rw [valV_neg (fun q => e (Sum.inr.inj q)), if_neg e, kvT_get (h.resolve_left (Ne.symm e))]
theorem kvT_keys (m : Ws) : (kvT m).map (·.1) = (m.map (·.1)).map Sum.inr := by
  unfold kvT
  rw [List.map_map, List.map_map]
  rfl
theorem kvT_at {m : Ws} {i : Nat} {k : Key} {v : V} (h : (kvT m)[i]? = some (k, v)) : ∃ q, m[i]? = some q ∧ k = Sum.inr q.1 ∧ v = .str q.2 := by
  unfold kvT at h
  rw [List.getElem?_map] at h
  cases e : m[i]? with
  | none => rw [e] at h; cases h
  | some q => rw [e] at h; cases h; exact ⟨q, rfl, rfl, rfl⟩
theorem wget {H : Hp} {d : Addr} {m : Ws} {y : Str} (r : Rd H d (.dK (kvT m))) (hy : y ∈ m.map (·.1)) : DGet H d (.str y) (some (.str (wo m y))) :=
  .inl ⟨kvT m, Sum.inr y, r, rfl, (kvT_get hy).symm⟩
/-- d is a dict of names and words -/
structure WAt (H : Hp) (d : Addr) (m : Ws) : Prop where
  at_ : H d = some (.dK (kvT m))
  nd : (m.map (·.1)).Nodup
theorem WAt.same {H H' : Hp} {d : Addr} {m : Ws} (h : WAt H d m) (s : Same H H') : WAt H' d m := ⟨s _ _ h.at_, h.nd⟩
theorem WAt.stay {b : Addr} {H H' : Hp} {d : Addr} {m : Ws} (h : WAt H d m) (s : Stay b H H') (hb : ∃ xs, H b = some (.lst xs)) : WAt H' d m := by
  obtain ⟨xs, hb⟩ := hb
  exact ⟨s _ _ (ne_of h.at_ hb (by intro z; cases z)) h.at_, h.nd⟩
theorem WAt.new {H : Hp} {d : Addr} : WAt (upd H d (.dK [])) d [] := ⟨upd_same, List.nodup_nil⟩
theorem WAt.put {H : Hp} {d : Addr} {m : Ws} (h : WAt H d m) (x v : Str) : WAt (upd H d (.dK (putK (kvT m) (Sum.inr x) (V.str v)))) d (putW m x v) :=
  ⟨by rw [upd_same, kvT_put x v h.nd], putW_nodup x v h.nd⟩
/-! ### rounds -/
abbrev Tr := Str × Str × Str
abbrev Ts := List Tr
def TripAt (H : Hp) (x : V) (t : Tr) : Prop := ∃ a, x = .ref a ∧ H a = some (.tup [.str t.1, .str t.2.1, .str t.2.2])
theorem TripAt.same {H H' : Hp} {x : V} {t : Tr} (h : TripAt H x t) (s : Same H H') : TripAt H' x t := by
  obtain ⟨a, e, h⟩ := h
  exact ⟨a, e, s _ _ h⟩
theorem TripAt.stay {b : Addr} {H H' : Hp} {x : V} {t : Tr} (h : TripAt H x t) (s : Stay b H H') (hb : ∃ xs, H b = some (.lst xs)) : TripAt H' x t := by
  obtain ⟨a, e, h⟩ := h
  obtain ⟨xs, hb⟩ := hb
  exact ⟨a, e, s _ _ (ne_of h hb (by intro z; cases z)) h⟩
def TripsAt (H : Hp) (l : Addr) (ts : Ts) : Prop := ∃ xs, H l = some (.lst xs) ∧ Paired (TripAt H) xs ts
theorem TripsAt.same {H H' : Hp} {l : Addr} {ts : Ts} (h : TripsAt H l ts) (s : Same H H') : TripsAt H' l ts := by
  obtain ⟨xs, h1, h2⟩ := h
  exact ⟨xs, s _ _ h1, paired_map (fun _ _ q => q.same s) h2⟩
theorem TripsAt.stay {b : Addr} {H H' : Hp} {l : Addr} {ts : Ts} (h : TripsAt H l ts) (s : Stay b H H') (hb : ∃ xs, H b = some (.lst xs)) (ne : l ≠ b) : TripsAt H' l ts := by
  obtain ⟨xs, h1, h2⟩ := h
  exact ⟨xs, s _ _ ne h1, paired_map (fun _ _ q => q.stay s hb) h2⟩
theorem trips_push {H : Hp} {l t : Addr} {ts : Ts} {a b c : Str} (h : TripsAt H l ts) (ht : H t = none) :
    ∃ xs, upd H t (.tup [.str a, .str b, .str c]) l = some (.lst xs) ∧ xs.length = ts.length ∧ TripsAt (upd (upd H t (.tup [.str a, .str b, .str c])) l (.lst (xs ++ [.ref t]))) l (ts ++ [(a, b, c)]) := by
  obtain ⟨xs, hx, hp⟩ := h
  have tl : t ≠ l := fun z => by rw [z, hx] at ht; cases ht
  refine ⟨xs, (upd_ne tl.symm).trans hx, paired_len hp, _, upd_same, paired_snoc ⟨t, rfl, (upd_ne tl).trans upd_same⟩ (paired_map (fun y q hq => ?_) hp)⟩
  obtain ⟨u, rfl, hu⟩ := hq
  exact ⟨u, rfl, (upd_ne (ne_of hu hx (by intro z; cases z))).trans ((upd_ne (ne_of_none hu ht)).trans hu)⟩
/-! ### what fits -/
def fitL (w : Str) (n : Int) : Bool := if w = "none" then decide (n = 0) else if w = "some" then decide (1 ≤ n) else decide (0 ≤ n)
def fitR (w : Str) (r n : Int) : Bool := if w = "first" then decide (r = 0) else decide (0 ≤ r) && decide (r < n)
def syms (wm : Ws) (ts : Ts) : List Str := wm.map (·.1) ++ ts.map (·.1)
structure Fit (wm : Ws) (ts : Ts) (m : Ps) : Prop where
  keys : (m.map (·.1)).Perm (syms wm ts)
  len : ∀ q ∈ wm, fitL q.2 (co m q.1) = true
  rnd : ∀ t ∈ ts, fitR t.2.2 (co m t.1) (co m t.2.1) = true
structure OkD (wm : Ws) (ts : Ts) : Prop where
  nd : (syms wm ts).Nodup
  nam : ∀ q ∈ wm, isLc q.1.cps.toList = true ∧ (q.2 = "any" ∨ q.2 = "none" ∨ q.2 = "some")
  rnd : ∀ t ∈ ts, isRc t.1.cps.toList = true ∧ (t.2.1, ("some" : Str)) ∈ wm ∧ (t.2.2 = "first" ∨ t.2.2 = "any")
  few : wm.length ≤ 8 ∧ ts.length ≤ 8
theorem lc_rc {l : List Nat} (h1 : isLc l = true) (h2 : isRc l = true) : False := by
  rw [isRc_eq] at h2
  unfold isLc at h1
  simp only [Bool.and_eq_true] at h1 h2
  obtain ⟨_, h3, h4, h5, _⟩ := h2
  obtain ⟨_, _, h6⟩ := h1
  have h3 := of_decide_eq_true h3
  cases e : l.drop 1 with
  | nil => rw [e] at h3; cases h3
  | cons c r =>
    rw [e, List.all_cons, Bool.and_eq_true] at h5
    have hc : c ∈ l := List.mem_of_mem_drop (i := 1) (e ▸ List.mem_cons_self)
    have h6 := List.all_eq_true.mp h6 c hc
    simp only [Bool.and_eq_true, decide_eq_true_eq] at h5 h6
    omega
theorem syms_nd {wm : Ws} {ts : Ts} (h1 : (wm.map (·.1)).Nodup) (h2 : (ts.map (·.1)).Nodup) (h3 : ∀ q ∈ wm, isLc q.1.cps.toList = true) (h4 : ∀ t ∈ ts, isRc t.1.cps.toList = true) : (syms wm ts).Nodup := by
  unfold syms
  rw [List.nodup_append]
  refine ⟨h1, h2, fun a ha b hb e => ?_⟩
  obtain ⟨q, hq, rfl⟩ := List.mem_map.mp ha
  obtain ⟨t, ht, rfl⟩ := List.mem_map.mp hb
  have := h3 q hq
  rw [e] at this
  exact lc_rc this (h4 t ht)
theorem OkD.sub {wm : Ws} {ts : Ts} (h : OkD wm ts) (i : Nat) : OkD wm (ts.take i) := by
  have hs : (ts.take i).Sublist ts := List.take_sublist _ _
  refine ⟨h.nd.sublist ((List.Sublist.refl _).append (hs.map _)), h.nam, fun t ht => h.rnd t (hs.subset ht), h.few.1, ?_⟩
  rw [List.length_take]
  have := h.few.2
  omega
theorem OkD.sym {wm : Ws} {ts : Ts} (h : OkD wm ts) : ∀ s ∈ syms wm ts, isSym s = true := fun s hs => by
  unfold isSym
  rcases List.mem_append.mp hs with hs | hs
  · obtain ⟨q, hq, rfl⟩ := List.mem_map.mp hs
    rw [(h.nam q hq).1]
    rfl
  · obtain ⟨t, ht, rfl⟩ := List.mem_map.mp hs
    rw [(h.rnd t ht).1, Bool.or_true]
/-- p is a domain -/
def DomAt (C : Addr) (H : Hp) (p : Addr) (wm : Ws) (ts : Ts) : Prop := ∃ dx d l, H p = some (.ins C dx [("_lengths", .ref d), ("_rounds", .ref l)]) ∧ WAt H d wm ∧ TripsAt H l ts
theorem DomAt.same {C : Addr} {H H' : Hp} {p : Addr} {wm : Ws} {ts : Ts} (h : DomAt C H p wm ts) (s : Same H H') : DomAt C H' p wm ts := by
  obtain ⟨dx, d, l, h1, h2, h3⟩ := h
  exact ⟨dx, d, l, s _ _ h1, h2.same s, h3.same s⟩
/-- p is a domain, its dict at d, its list at l -/
def DomIn (C : Addr) (H : Hp) (p : Addr) (wm : Ws) (ts : Ts) (dx d l : Addr) : Prop := H p = some (.ins C dx [("_lengths", .ref d), ("_rounds", .ref l)]) ∧ WAt H d wm ∧ TripsAt H l ts
theorem DomIn.dom {C : Addr} {H : Hp} {p : Addr} {wm : Ws} {ts : Ts} {dx d l : Addr} (h : DomIn C H p wm ts dx d l) : DomAt C H p wm ts := ⟨dx, d, l, h⟩
theorem DomIn.same {C : Addr} {H H' : Hp} {p : Addr} {wm : Ws} {ts : Ts} {dx d l : Addr} (h : DomIn C H p wm ts dx d l) (s : Same H H') : DomIn C H' p wm ts dx d l := ⟨s _ _ h.1, h.2.1.same s, h.2.2.same s⟩
structure DomK (K : PySem.W.Frag) (C : Addr) : Prop where
  cl : Cls K C
  n1 : NoAttr K C "_lengths"
  n2 : NoAttr K C "_rounds"
/-- the two tuples of words -/
structure DTx (K : PySem.W.Frag) (mg : Str → Option Value) (AL AR : Addr) : Prop where
  hLW : mg "LENGTH_WORDS" = some (.ref AL)
  hRW : mg "ROUND_WORDS" = some (.ref AR)
  sL : ∀ H, SqT K H AL [.str "any", .str "none", .str "some"]
  sR : ∀ H, SqT K H AR [.str "first", .str "any"]
def spFitL : Sp := fun vs H Q _ => ∃ (w : Str) (n : Int), vs = [.str w, .int n] ∧ Q (.bl (fitL w n)) H
def spFitR : Sp := fun vs H Q _ => ∃ (w : Str) (r n : Int), vs = [.str w, .int r, .int n] ∧ Q (.bl (fitR w r n)) H
def spDSyms (C : Addr) : Sp := fun vs H Q _ => ∃ (p : Addr) (wm : Ws) (ts : Ts), vs = [.ref p] ∧ DomAt C H p wm ts ∧ wm.length ≤ 8 ∧ ts.length ≤ 8 ∧
  ∀ l ys H', ys.Perm (syms wm ts) → sortedS ys = true → H l = none → H' l = some (.lst (ys.map V.str)) → Same H H' → Q (.ref l) H'
def spDInit (K : PySem.W.Frag) (C : Addr) : Sp := fun vs H Q _ => ∃ (x d r dx : Addr) (xs : List V) (wm : Ws) (ts : Ts), vs = [.ref x, .ref d, .ref r] ∧ H x = some (.ins C dx []) ∧ WAt H d wm ∧ (SqL K H r xs ∨ SqT K H r xs) ∧ Paired (TripAt H) xs ts ∧ OkD wm ts ∧ ∀ H' e l, DomIn C H' x wm ts dx e l → H e = none → H l = none → Stay x H H' → Q .non H'
def spDIn (C : Addr) : Sp := fun vs H Q _ => ∃ (p v : Addr) (wm : Ws) (ts : Ts) (m : Ps), vs = [.ref p, .ref v] ∧ DomAt C H p wm ts ∧ OkD wm ts ∧ DictAt H v m ∧ m.length ≤ 32 ∧ ∀ b H', (b = true ↔ Fit wm ts m) → Same H H' → Q (.bl b) H'
/-! ### lists of texts as data -/
def datS (l : List Str) : List PyData := l.map PyData.str
theorem dpAll_s {K : PySem.W.Frag} {H : Hp} : ∀ l : List Str, DpAll K H (l.map V.str) (datS l)
  | [] => .nil
  | x :: l => .cons (.str _) (dpAll_s l)
theorem can_s : ∀ {l : List Str}, (∀ x ∈ l, isSym x = true) → PyData.canLayAll0 (datS l) = true
  | [], _ => rfl
  | x :: l, h => by
    show (PyData.strOk x && PyData.canLayAll0 (datS l)) = true
    rw [sym_ok (h x List.mem_cons_self), can_s fun p hp => h p (List.mem_cons_of_mem _ hp)]
    rfl
theorem depth_s : ∀ (l : List Str), PyData.depthAll (datS l) = 0
  | [] => rfl
  | x :: l => by
    show max (PyData.depth (.str x)) (PyData.depthAll (datS l)) = 0
    rw [depth_s l]
    simp [PyData.depth]
theorem shapedS {l : List Str} (h : ∀ x ∈ l, isSym x = true) : SeqAt.shaped (.list (datS l)) = true := by
  unfold SeqAt.shaped
  rw [Bool.and_eq_true]
  refine ⟨can_s h, decide_eq_true ?_⟩
  have := depth_s l
  show PyData.depthAll (datS l) + 1 ≤ 64
  omega
theorem eqvS : ∀ (l l' : List Str), PyData.eqvAll (datS l) (datS l') = decide (l = l')
  | [], [] => by simp [datS, PyData.eqvAll]
  | [], _ :: _ => by simp [datS, PyData.eqvAll]
  | _ :: _, [] => by simp [datS, PyData.eqvAll]
  | x :: l, y :: l' => by
    have ih := eqvS l l'
    unfold datS at ih ⊢
    rw [List.map_cons, List.map_cons]
    simp only [PyData.eqvAll, PyData.eqv, ih]
    by_cases e : x = y
    · subst e
      simp
    · simp [e]
theorem eqvLS (l l' : List Str) : PyData.eqv (.list (datS l)) (.list (datS l')) = decide (l = l') := by
  rw [PyData.eqv, eqvS]
theorem srt_iff {ys zs a b : List Str} (h1 : ys.Perm a) (h2 : zs.Perm b) (s1 : sortedS ys = true) (s2 : sortedS zs = true) : ys = zs ↔ a.Perm b :=
  ⟨fun e => h1.symm.trans (e ▸ h2), fun p => sorted_one (sorted_pw s1) (sorted_pw s2) (h1.trans (p.trans h2.symm))⟩
theorem mergeK_kvT : ∀ (b a : Ws), ((a ++ b).map (·.1)).Nodup → mergeK (kvT a) (kvT b) = kvT (a ++ b)
  | [], a, _ => by rw [List.append_nil]; rfl
  | (x, v) :: b, a, h => by
    have hx : x ∉ a.map (·.1) := fun hx => by
      rw [List.map_append, List.nodup_append] at h
      exact h.2.2 x hx x (by simp) rfl
    have e : (a ++ (x, v) :: b) = (a ++ [(x, v)]) ++ b := by simp
    have ha : (a.map (·.1)).Nodup := by
      rw [List.map_append, List.nodup_append] at h
      exact h.1
    rw [e] at h ⊢
    rw [← mergeK_kvT b (a ++ [(x, v)]) h, ← putW_new a x v hx, ← kvT_put x v ha]
    rfl
theorem self_wo {wm : Ws} (nd : (wm.map (·.1)).Nodup) : (wm.map (·.1)).map (fun y => (y, wo wm y)) = wm := by
  rw [List.map_map]
  conv => rhs; rw [← List.map_id wm]
  exact List.map_congr_left fun q hq => by
    show (q.1, wo wm q.1) = q
    rw [wo_in nd hq]
theorem rev_perm {wm : Ws} {ys : List Str} (nd : (wm.map (·.1)).Nodup) (h : ys.Perm (wm.map (·.1))) : (ys.reverse.map fun y => (y, wo wm y)).Perm wm := by
  have := ((List.reverse_perm ys).trans h).map fun y => (y, wo wm y)
  rw [self_wo nd] at this
  exact this
theorem syms_perm {wm gm : Ws} {ts : Ts} (p : gm.Perm wm) : (syms gm ts).Perm (syms wm ts) := (p.map _).append_right _
theorem OkD.perm {wm gm : Ws} {ts : Ts} (h : OkD wm ts) (p : gm.Perm wm) : OkD gm ts :=
  ⟨(syms_perm p).nodup_iff.mpr h.nd, fun q hq => h.nam q (p.mem_iff.mp hq), fun t ht => ⟨(h.rnd t ht).1, p.mem_iff.mpr (h.rnd t ht).2.1, (h.rnd t ht).2.2⟩, by rw [p.length_eq]; exact h.few⟩
theorem fit_perm {wm gm : Ws} {ts : Ts} {m : Ps} (p : gm.Perm wm) : Fit gm ts m ↔ Fit wm ts m :=
  ⟨fun h => ⟨h.keys.trans (syms_perm p), fun q hq => h.len q (p.mem_iff.mpr hq), h.rnd⟩, fun h => ⟨h.keys.trans (syms_perm p).symm, fun q hq => h.len q (p.mem_iff.mp hq), h.rnd⟩⟩
def datR (ts : Ts) : List PyData := ts.map fun t => .tuple [.str t.1, .str t.2.1, .str t.2.2]
theorem dpAll_r {K : PySem.W.Frag} {H : Hp} : ∀ {xs : List V} {ts : Ts}, Paired (TripAt H) xs ts → DpAll K H xs (datR ts)
  | _, _, .nil => .nil
  | _, _, .cons h r => by
    obtain ⟨t, rfl, h⟩ := h
    exact .cons (.tup (SqT.of h) (.cons (.str _) (.cons (.str _) (.cons (.str _) .nil)))) (dpAll_r r)
def OkT (t : Tr) : Prop := isSym t.1 = true ∧ isSym t.2.1 = true ∧ isSym t.2.2 = true ∨ isSym t.1 = true ∧ isSym t.2.1 = true ∧ t.2.2 = "first"
theorem okT_str {t : Tr} (h : OkT t) : PyData.strOk t.1 = true ∧ PyData.strOk t.2.1 = true ∧ PyData.strOk t.2.2 = true := by
  rcases h with ⟨a, b, c⟩ | ⟨a, b, c⟩
  · exact ⟨sym_ok a, sym_ok b, sym_ok c⟩
  · refine ⟨sym_ok a, sym_ok b, ?_⟩
    rw [c]
    decide +kernel
theorem can_r : ∀ {ts : Ts}, (∀ t ∈ ts, OkT t) → PyData.canLayAll0 (datR ts) = true
  | [], _ => rfl
  | t :: ts, h => by
    obtain ⟨a, b, c⟩ := okT_str (h t List.mem_cons_self)
    show ((PyData.strOk t.1 && (PyData.strOk t.2.1 && (PyData.strOk t.2.2 && true))) && PyData.canLayAll0 (datR ts)) = true
    rw [a, b, c, can_r fun p hp => h p (List.mem_cons_of_mem _ hp)]
    rfl
theorem depth_r : ∀ (ts : Ts), PyData.depthAll (datR ts) ≤ 1
  | [] => Nat.zero_le _
  | t :: ts => by
    show max (PyData.depth (.tuple [.str t.1, .str t.2.1, .str t.2.2])) (PyData.depthAll (datR ts)) ≤ 1
    have h1 : PyData.depth (.tuple [.str t.1, .str t.2.1, .str t.2.2]) = 1 := by simp [PyData.depth, PyData.depthAll]
    have h2 := depth_r ts
    omega
theorem shapedR {ts : Ts} (h : ∀ t ∈ ts, OkT t) : SeqAt.shaped (.list (datR ts)) = true := by
  unfold SeqAt.shaped
  rw [Bool.and_eq_true]
  refine ⟨can_r h, decide_eq_true ?_⟩
  have := depth_r ts
  show PyData.depthAll (datR ts) + 1 ≤ 64
  omega
theorem eqvR {ts : Ts} (h : ∀ t ∈ ts, OkT t) : PyData.eqv (.list (datR ts)) (.list (datR ts)) = true := SeqAt.eqv_refl _ (SeqAt.canLay_of_shaped (shapedR h))
theorem eqvR_nil (ts : Ts) : PyData.eqv (.list (datR ts)) (.list []) = ts.isEmpty := by
  cases ts <;> rfl
theorem OkD.trip {wm : Ws} {ts : Ts} (h : OkD wm ts) : ∀ t ∈ ts, OkT t := fun t ht => by
  obtain ⟨a, b, c⟩ := h.rnd t ht
  have h1 : isSym t.1 = true := by
    unfold isSym
    rw [a, Bool.or_true]
  have h2 : isSym t.2.1 = true := by
    unfold isSym
    rw [(h.nam _ b).1]
    rfl
  rcases c with c | c
  · exact .inr ⟨h1, h2, c⟩
  · refine .inl ⟨h1, h2, ?_⟩
    rw [c]
    decide +kernel
theorem sq_stay {K : PySem.W.Frag} {H H' : Hp} {x r : Addr} {xs : List V} (h : SqL K H r xs ∨ SqT K H r xs) (hx : ∃ C dx fs, H x = some (.ins C dx fs)) (s : Stay x H H') : (SqL K H r xs → SqL K H' r xs) ∧ (SqT K H r xs → SqT K H' r xs) := by
  obtain ⟨C, dx, fs, hx⟩ := hx
  refine ⟨fun h => ?_, fun h => ?_⟩
  · rcases h with (e | ⟨o, e⟩) | h
    · exact .inl (.inl (s _ _ (ne_of e hx (by intro z; cases z)) e))
    · exact .inl (.inr ⟨o, s _ _ (ne_of e hx (by intro z; cases z)) e⟩)
    · exact .inr h
  · rcases h with (e | ⟨o, e⟩) | h
    · exact .inl (.inl (s _ _ (ne_of e hx (by intro z; cases z)) e))
    · exact .inl (.inr ⟨o, s _ _ (ne_of e hx (by intro z; cases z)) e⟩)
    · exact .inr h
theorem seq_or {K : PySem.W.Frag} {H H1 : Hp} {x r : Addr} {xs : List V} {R : It → Prop} (h : SqL K H r xs ∨ SqT K H r xs) (hx : ∃ C dx fs, H x = some (.ins C dx fs)) (s1 : Stay x H H1)
    (k : ∀ J, Walk J xs.length (fun H' => Stay x H H') (YAt xs) → R J) : (SqL K H1 r xs ∧ R (Itl K r)) ∨ (SqT K H1 r xs ∧ R (Itt K r)) := by
  rcases id h with q | q
  · exact .inl ⟨(sq_stay h hx s1).1 q, k _ (walk_list.mono (fun H' s => (sq_stay h hx s).1 q) fun _ _ _ _ _ _ y => y)⟩
  · exact .inr ⟨(sq_stay h hx s1).2 q, k _ (walk_tup.mono (fun H' s => (sq_stay h hx s).2 q) fun _ _ _ _ _ _ y => y)⟩
theorem inV_str {s : Str} : ∀ {l : List Str}, inV (.str s) (l.map V.str) = decide (s ∈ l)
  | [] => rfl
  | y :: l => by
    show (eqV (.str y) (.str s) || inV (.str s) (l.map V.str)) = _
    rw [inV_str]
    by_cases e : y = s
    · subst e
      simp [eqV]
    · have : ¬ s = y := Ne.symm e
      simp [eqV, e, this]
theorem flat_strs : ∀ l : List Str, (l.map V.str).all flatV = true
  | [] => rfl
  | _ :: l => flat_strs l
theorem lc_len {x : Str} (h : isLc x.cps.toList = true) : x.length ≤ sizeLine := sym_len (by unfold isSym; rw [h]; rfl)
theorem rc_len {x : Str} (h : isRc x.cps.toList = true) : x.length ≤ sizeLine := sym_len (by unfold isSym; rw [h, Bool.or_true])
section
variable {X : Cx} {tg : Expr}
def iSeq (K : PySem.W.Frag) (tl : TE) : TI := fun σ H R => tl σ H fun x H1 => ∃ a xs, x = .ref a ∧ ((SqL K H1 a xs ∧ R (Itl K a) H1) ∨ (SqT K H1 a xs ∧ R (Itt K a) H1))
theorem pi_seq {l : Expr} {tl : TE} (hl : PE X l tl) : PI X tg l (iSeq X.K tl) := by
  refine ⟨fun pins s σ H R I h => ?_⟩
  refine thn (hl.run pins s σ H _ I h) fun v s1 ⟨x, H1, I1, r1, q1⟩ => ?_
  obtain ⟨a, xs, e, q⟩ := q1
  subst e
  cases r1
  rcases q with ⟨hq, q⟩ | ⟨hq, q⟩
  · obtain ⟨its, rv, p, hz⟩ := I1.list hq
    refine wpAny_pyIter_list p.isList ?_
    refine ⟨s1.heap.objs.size, [s1.heap.objs.size], _, _, H1, rfl, I1.kept (t' := s1.toks) fun b o e => Heap.get?_push_of_some _ e, turn_list a _, ⟨_, Heap.get?_push_size _ rfl, rfl, rfl⟩, fun b hb => ?_, q⟩
    have e : b = s1.heap.objs.size := by simpa using hb
    subst e
    exact I1.fpOk (Nat.le_refl _) (I1.hok.fresh (Nat.le_refl _))
  · obtain ⟨its, rv, p, hz⟩ := I1.tuple hq
    refine wpAny_pyIter_tuple (show s1.heap.IsTuple a its.toArray from p) ?_
    refine ⟨s1.heap.objs.size, [s1.heap.objs.size], _, _, H1, rfl, I1.kept (t' := s1.toks) fun b o e => Heap.get?_push_of_some _ e, turn_tuple a _, ⟨_, Heap.get?_push_size _ rfl, rfl, rfl⟩, fun b hb => ?_, q⟩
    have e : b = s1.heap.objs.size := by simpa using hb
    subst e
    exact I1.fpOk (Nat.le_refl _) (I1.hok.fresh (Nat.le_refl _))
end
end Ow

set_option Elab.async false
set_option linter.all false
namespace Ow
open PySem PySem.Spec PyProof.Rows L2
/-! ### where an object stands, step by step back -/
theorem at_same {H H' : Hp} (s : Same H H') {a : Addr} {o : HO} (h : H a = some o) : H' a = some o := s _ _ h
theorem at_stay {b : Addr} {H H' : Hp} (s : Stay b H H') {a : Addr} {o : HO} (n : a ≠ b) (h : H a = some o) : H' a = some o := s _ _ n h
theorem at_new {H H' : Hp} {p : Addr} {o : HO} (N : upd H p o = H') : H' p = some o := by rw [← N]; exact upd_same
theorem at_old {H H' : Hp} {p : Addr} {o : HO} (N : upd H p o = H') {a : Addr} {u : HO} (n : a ≠ p) (h : H a = some u) : H' a = some u := by rw [← N]; exact (upd_ne n).trans h
theorem at_upd {H : Hp} {p a : Addr} {o u : HO} (n : a ≠ p) (h : H a = some u) : upd H p o a = some u := (upd_ne n).trans h
theorem ne_fr {H : Hp} {a b : Addr} {o : HO} (hb : H b = none) (ha : H a = some o) : a ≠ b := fun z => by rw [z, hb] at ha; cases ha
theorem ne_kd {H : Hp} {a b : Addr} {o u : HO} (ha : H a = some o) (hb : H b = some u) (d : o ≠ u) : a ≠ b := fun z => by
  rw [z, hb] at ha
  exact d (Option.some.inj ha).symm
theorem sm_new {H H1 H' : Hp} {p : Addr} {o : HO} (N : upd H1 p o = H') (s : Same H H1) (h : H p = none) : Same H H' := by rw [← N]; exact same_over s h
theorem ne_fx {H : Hp} {a b : Addr} (hb : H b = none) (ha : ∃ o, H a = some o) : a ≠ b := by
  obtain ⟨o, ha⟩ := ha
  exact ne_fr hb ha
theorem ne_kx {H : Hp} {a b : Addr} {o : HO} (ha : H a = some o) (hb : ∃ u, H b = some u ∧ o ≠ u) : a ≠ b := by
  obtain ⟨u, hb, d⟩ := hb
  exact ne_kd ha hb d
theorem ex_same {H H' : Hp} (s : Same H H') {a : Addr} (h : ∃ o, H a = some o) : ∃ o, H' a = some o := by
  obtain ⟨o, h⟩ := h
  exact ⟨o, s _ _ h⟩
theorem ex_upd {H : Hp} {p a : Addr} {o : HO} (h : ∃ o, H a = some o) : ∃ u, upd H p o a = some u := by
  obtain ⟨u, h⟩ := h
  by_cases e : a = p
  · rw [e]; exact ⟨_, upd_same⟩
  · exact ⟨_, (upd_ne e).trans h⟩
theorem ex_old {H H' : Hp} {p : Addr} {o : HO} (N : upd H p o = H') {a : Addr} (h : ∃ o, H a = some o) : ∃ u, H' a = some u := by rw [← N]; exact ex_upd h
theorem ex_stay {b : Addr} {H H' : Hp} (s : Stay b H H') {a : Addr} (n : a ≠ b) (h : ∃ o, H a = some o) : ∃ o, H' a = some o := by
  obtain ⟨o, h⟩ := h
  exact ⟨o, s _ _ n h⟩
/-! ### all stays but for some objects -/
def Keep (M : Addr → Prop) (H H' : Hp) : Prop := ∀ a o, ¬ M a → H a = some o → H' a = some o
theorem Keep.refl (M : Addr → Prop) (H : Hp) : Keep M H H := fun _ _ _ h => h
theorem Keep.trans {M : Addr → Prop} {H H1 H2 : Hp} (x : Keep M H H1) (y : Keep M H1 H2) : Keep M H H2 := fun a o n h => y a o n (x a o n h)
theorem Keep.same {M : Addr → Prop} {H H1 H2 : Hp} (x : Keep M H H1) (y : Same H1 H2) : Keep M H H2 := fun a o n h => y a o (x a o n h)
theorem Keep.of {M : Addr → Prop} {H H' : Hp} (s : Same H H') : Keep M H H' := fun a o _ h => s a o h
theorem Keep.stay {M : Addr → Prop} {H H1 H2 : Hp} {b : Addr} (x : Keep M H H1) (y : Stay b H1 H2) (hb : M b) : Keep M H H2 := fun a o n h => y a o (fun e => n (by rw [e]; exact hb)) (x a o n h)
theorem Keep.put {M : Addr → Prop} {H H1 : Hp} {b : Addr} {o : HO} (x : Keep M H H1) (hb : M b) : Keep M H (upd H1 b o) := fun a u n h => (upd_ne fun e => n (by rw [e]; exact hb)).trans (x a u n h)
theorem Keep.new {M : Addr → Prop} {H H1 : Hp} {p : Addr} {o : HO} (x : Keep M H H1) (hp : H1 p = none) : Keep M H (upd H1 p o) := fun a u n h => (upd_ne (ne_of_none (x a u n h) hp)).trans (x a u n h)
theorem TripsAt.keep {M : Addr → Prop} {H H' : Hp} {l : Addr} {ts : Ts} (h : TripsAt H l ts) (s : Keep M H H') (hl : ¬ M l) (ht : ∀ a xs, H a = some (.tup xs) → ¬ M a) : TripsAt H' l ts := by
  obtain ⟨xs, h1, h2⟩ := h
  exact ⟨xs, s _ _ hl h1, paired_map (fun _ _ q => by
    obtain ⟨a, e, h⟩ := q
    exact ⟨a, e, s _ _ (ht _ _ h) h⟩) h2⟩
theorem DomIn.keep {M : Addr → Prop} {C : Addr} {H H' : Hp} {p : Addr} {wm : Ws} {ts : Ts} {dx d l : Addr} (h : DomIn C H p wm ts dx d l) (s : Keep M H H') (hp : ¬ M p) (hd : ¬ M d) (hl : ¬ M l) (ht : ∀ a xs, H a = some (.tup xs) → ¬ M a) : DomIn C H' p wm ts dx d l :=
  ⟨s _ _ hp h.1, ⟨s _ _ hd h.2.1.at_, h.2.1.nd⟩, h.2.2.keep s hl ht⟩
theorem Keep.mono {M M' : Addr → Prop} {H H' : Hp} (x : Keep M H H') (f : ∀ a, M a → M' a) : Keep M' H H' := fun a o n h => x a o (fun e => n (f a e)) h
theorem Keep.unlock {M : Addr → Prop} {H H' : Hp} {d : Addr} {o : Obj} {u : HO} (x : Keep M (upd H d (.frz o u)) H') (h : H d = some u) : Keep M H (upd H' d u) := fun a v n e => by
  by_cases z : a = d
  · subst z
    rw [h] at e
    rw [upd_same]
    exact e
  · rw [upd_ne z]
    exact x a v n ((upd_ne z).trans e)
theorem Keep.lock {M : Addr → Prop} {H : Hp} {d : Addr} {u : HO} (hd : ¬ M d) : ∀ {a : Addr} {v : HO}, a ≠ d → H a = some v → upd H d u a = some v := fun n e => (upd_ne n).trans e
theorem Keep.since {M : Addr → Prop} {H H1 H2 : Hp} (s : Same H H1) (x : Keep M H1 H2) (f : ∀ a, M a → H a = none) : Same H H2 := fun a o e => x a o (fun m => by rw [f a m] at e; cases e) (s a o e)
theorem funD_ok0 {P : Program} {w : World} {K : PySem.W.Frag} {mg : Str → Option Value} {base : Heap} {x qual : Str} {params : Arguments} {body : List Stmt} {scope : Scope} {dvs : List V} {kws : List (Str × V)} {f : Addr} {fd : FuncData} {N ps : List Str} {k : Nat} {sp : Sp} (F : FunD K x qual params body scope dvs kws f fd) (S : FnScope N ps scope) (len : ∀ vs H Q E, sp vs H Q E → vs.length = ps.length)
    (hbody : ∀ (cdv : Value) (A : Around) (outer : List Env) (s : Shared) (H : Hp) (vs : List V) (Q : VK) (E : XK), Room k (A.deeper (envOfC qual scope s.heap.objs.size f cdv)) → sp vs H Q E →
      ∃ t, PSs (cxOf CX0 P w K mg base N qual scope f cdv A outer s H E).nox body t ∧ t { nx := fun _ H' => Q .non H', rt := Q } (L2.start N vs) H) : FnOk P w K mg base CX0 (k + 1) f fd ps sp := by
  refine FunD.ok F S len fun cdv A outer s H vs Q E hr hsp => ?_
  obtain ⟨t, h, q⟩ := hbody cdv A outer s H vs Q E hr hsp
  exact ⟨t, h.nox, q⟩
end Ow

set_option Elab.async false
set_option linter.all false
set_option maxRecDepth 100000
set_option maxHeartbeats 4000000
namespace Ow
open PySem PySem.Spec PyProof.Rows L2
local macro_rules | `(tactic| walk_at "rd") => `(tactic| repeat (first | (refine ⟨_, rfl, ?_⟩) | (refine ⟨_, _, rfl, rfl, ?_⟩) | (refine ⟨rfl, ?_⟩) | (refine ⟨_, _, rfl, ?_⟩) | (refine Or.inl ⟨_, rfl, ?_⟩) | (refine ⟨(by first | (show (0 : Int) < (_ : Int); decide) | exact Or.inl ⟨by decide, by decide⟩ | exact Or.inr ⟨by decide, by decide⟩ | exact ⟨by decide, by decide⟩ | exact ⟨by decide, by decide, by decide⟩), ?_⟩)))
section
variable {P : Program} {w : World} {K : PySem.W.Frag} {mg : Str → Option Value} {base : Heap} {C AL AR : Addr}
abbrev s_fits_length : Stmt := top 20
theorem sc_fits_length : FnScope ["word", "length"] ["word", "length"] (defScope s_fits_length) := ⟨rfl, rfl, rfl, by decide +kernel, rfl, by decide +kernel, by decide +kernel⟩
theorem ok_fitl {f : Addr} {fd : FuncData} (F : Fun K "fits_length" "fits_length" s_fits_length f fd) (T : Txt mg) : FnOk P w K mg base CX0 1 f fd ["word", "length"] spFitL := by
  refine F.ok sc_fits_length (fun vs H Q E h => ?_) (fun cdv A outer s H vs Q E hr h => ?_)
  · obtain ⟨x, n, rfl, _⟩ := h
    rfl
  · obtain ⟨x, n, rfl, k⟩ := h
    have hu := hu_of hr
    refine ⟨_, (pss_cons (ps_if (pt_cmpR op_eq (pv 0) pe_str (nomark _)) (pss_one (ps_ret (pe_cmpR op_eq (pv 1) pe_int (nomark _)))) pss_nil)
      (pss_cons (ps_if (pt_cmpR op_eq (pv 0) pe_str (nomark _)) (pss_one (ps_ret (pe_cmpR op_ge (pv 1) pe_int (nomark _)))) pss_nil)
      (pss_one (ps_ret (pe_cmpR op_ge (pv 1) pe_int (nomark _)))))), ?_⟩
    walk_at "rd"
    refine ite2 (fun h => ?_) (fun h => ?_)
    · have h : x = "none" := by simpa using h
      walk_at "rd"
      unfold fitL at k
      rw [if_pos h] at k
      have e : decide (V.int n = V.int 0) = decide (n = 0) := by simp
      show Q (.bl (decide (V.int n = V.int 0))) H
      rw [e]
      exact k
    · have h : ¬ x = "none" := by simpa using h
      walk_at "rd"
      unfold fitL at k
      rw [if_neg h] at k
      refine ite2 (fun h => ?_) (fun h => ?_)
      · have h : x = "some" := by simpa using h
        rw [if_pos h] at k
        walk_at "rd"
        exact k
      · have h : ¬ x = "some" := by simpa using h
        rw [if_neg h] at k
        walk_at "rd"
        exact k
abbrev s_fits_round : Stmt := top 21
theorem sc_fits_round : FnScope ["word", "done", "length"] ["word", "done", "length"] (defScope s_fits_round) := ⟨rfl, rfl, rfl, by decide +kernel, rfl, by decide +kernel, by decide +kernel⟩
theorem ok_fitr {f : Addr} {fd : FuncData} (F : Fun K "_fits_round" "_fits_round" s_fits_round f fd) (T : Txt mg) : FnOk P w K mg base CX0 1 f fd ["word", "done", "length"] spFitR := by
  refine F.ok sc_fits_round (fun vs H Q E h => ?_) (fun cdv A outer s H vs Q E hr h => ?_)
  · obtain ⟨x, r, n, rfl, _⟩ := h
    rfl
  · obtain ⟨x, r, n, rfl, k⟩ := h
    have hu := hu_of hr
    refine ⟨_, (pss_cons (ps_if (pt_cmpR op_eq (pv 0) pe_str (nomark _)) (pss_one (ps_ret (pe_cmpR op_eq (pv 1) pe_int (nomark _)))) pss_nil)
      (pss_one (ps_ret (pe_chain op_le op_lt pe_int (pv 1) (pv 2))))), ?_⟩
    walk_at "rd"
    unfold fitR at k
    refine ite2 (fun h => ?_) (fun h => ?_)
    · have h : x = "first" := by simpa using h
      walk_at "rd"
      rw [if_pos h] at k
      have e : decide (V.int r = V.int 0) = decide (r = 0) := by simp
      show Q (.bl (decide (V.int r = V.int 0))) H
      rw [e]
      exact k
    · have h : ¬ x = "first" := by simpa using h
      rw [if_neg h] at k
      walk_at "rd"
      refine ite2 (fun h => ?_) (fun h => ?_)
      · rw [h, Bool.true_and] at k
        walk_at "rd"
        exact k
      · rw [Bool.eq_false_iff.mpr h, Bool.false_and] at k
        walk_at "rd"
        exact k
abbrev s_Domain_symbols : Stmt := inClass (top 23) 1
theorem sc_Domain_symbols : FnScope ["self", "entry"] ["self"] (defScope s_Domain_symbols) := ⟨rfl, rfl, rfl, by decide +kernel, rfl, by decide +kernel, by decide +kernel⟩
theorem ok_dsyms {f : Addr} {fd : FuncData} (F : Fun K "symbols" "Domain.symbols" s_Domain_symbols f fd) (T : Txt mg) (R : DomK K C) : FnOk P w K mg base CX0 1 f fd ["self"] (spDSyms C) := by
  refine F.ok sc_Domain_symbols (fun vs H Q E h => ?_) (fun cdv A outer s H vs Q E hr h => ?_)
  · obtain ⟨p, wm, ts, rfl, _⟩ := h
    rfl
  · obtain ⟨p, wm, ts, rfl, hD, l1, l2, k⟩ := h
    obtain ⟨dx, d, l, h1, h2, xs, h3, h4⟩ := id hD
    have hu := hu_of hr
    refine ⟨_, (pss_one (ps_ret (pe_callB cr_sortedS (by rfl) T.n_sorted (by decide +kernel) (pa_cons (pe_op op_cat (pe_callTy (call_list_dK rfl) (by rfl) T.n_list (by decide +kernel) (pa_cons (pe_fld (pv 0) rfl) pa_nil)) (pe_lc (own := [("entry", 1)]) (g := gName 1) (by rfl) sc_Domain_symbols.nd (pi_list (pe_fld (pv 0) rfl)) (blkOk_by (own := [("entry", 1)]) (N := ["self", "entry"]) (sc := defScope s_Domain_symbols) (by decide +kernel)) (fun _ _ _ _ _ => (pg_name (i := 1) sc_Domain_symbols.nd rfl (Or.inl rfl))) (fun _ _ _ _ _ => pts_nil) (fun _ _ _ _ _ => (pe_ix (ix_tupK (K := K) rfl) (pv 1) pe_int (fun _ _ => rfl))))) pa_nil)))), ?_⟩
    walk_at "rd"
    refine ⟨p, C, dx, _, .ref d, rfl, h1, R.cl, R.n1, rfl, ?_⟩
    refine ⟨d, kvT wm, rfl, h2.at_, fun q hq => ?_⟩
    have S1 := same_new (o := .lst ((kvT wm).map fun kv => kV kv.1)) (fun a u (e : H a = some u) => e) hq
    walk_at "rd"
    refine ⟨p, C, dx, _, .ref l, rfl, S1 _ _ h1, R.cl, R.n2, rfl, ?_⟩
    refine ⟨l, rfl, ⟨_, SqL.of (S1 _ _ h3)⟩, fun D hD => lc_list (a := l) (xs := xs) (fun i H' => H' D = some (.lst ((ts.take i).map fun t => V.str t.1)) ∧ Same (upd H q (.lst ((kvT wm).map fun kv => kV kv.1))) H') ⟨upd_same, same_new (fun _ _ e => e) hD⟩ (fun i H' _ h => SqL.of (h.2 _ _ (S1 _ _ h3))) ?_ ?_⟩
    · rintro i x H' hi ⟨ha, S5⟩
      obtain ⟨t, ht, a, rfl, hat⟩ := paired_at h4 hi
      refine ⟨rfl, ?_⟩
      walk_at "rd"
      refine ⟨a, _, 0, .str t.1, rfl, rfl, SqT.of (S5 _ _ (S1 _ _ hat)), rfl, ?_⟩
      refine ⟨_, ha, ?_, ?_, same_over S5 hD⟩
      · rw [List.length_map, List.length_take]
        exact Nat.lt_of_lt_of_le (m := 64) (by omega) (by decide)
      · rw [upd_same, List.take_succ, ht, List.map_append]
        rfl
    · rintro H' ⟨ha, S5⟩
      rw [paired_len h4, List.take_length] at ha
      have qD : q ≠ D := fun z => by rw [z, upd_same] at hD; cases hD
      have ek : (kvT wm).map (fun kv => kV kv.1) = (wm.map (·.1)).map V.str := by
        unfold kvT
        rw [List.map_map, List.map_map]
        rfl
      have hq2 := S5 _ _ upd_same
      rw [ek] at hq2
      refine ⟨q, D, (wm.map (·.1)).map V.str, (ts.map (·.1)).map V.str, rfl, rfl, hq2, by rw [ha, List.map_map]; rfl, ?_, fun r hr => ?_⟩
      · simp only [List.length_map]
        exact Nat.le_trans (m := 64) (by omega) (by decide)
      have S6 : Same H (upd H' r (.lst ((wm.map (·.1)).map V.str ++ (ts.map (·.1)).map V.str))) := same_new (same_trans S1 S5) hr
      refine ⟨r, syms wm ts, rfl, SqL.of (by rw [upd_same]; unfold syms; rw [List.map_append]), by unfold syms; rw [List.length_append, List.length_map, List.length_map]; omega, fun ys z hperm hsort hz => ?_⟩
      exact k z ys _ hperm hsort (by
        cases e : H z with
        | none => rfl
        | some o => rw [S6 _ _ e] at hz; cases hz) upd_same (same_new S6 hz)
abbrev s_DomainD_initD : Stmt := inClass (top 23) 0
theorem sc_DomainD_initD : FnScope ["self", "lengths", "rounds", "name", "symbol", "word"] ["self", "lengths", "rounds"] (defScope s_DomainD_initD) := ⟨rfl, rfl, rfl, by decide +kernel, rfl, by decide +kernel, by decide +kernel⟩
theorem ok_dinit {f : Addr} {fd : FuncData} {dvs : List V} (F : FunD K "__init__" "Domain.__init__" (defArgs s_DomainD_initD) (defBody s_DomainD_initD) (defScope s_DomainD_initD) dvs [] f fd) (T : Txt mg) (D : DTx K mg AL AR) (R : DomK K C) (c_isl : Cal P w K mg base "is_list_name" 1 spIsL) (c_isr : Cal P w K mg base "is_round_symbol" 1 spIsR) (c_dsyms : CalM P w K mg base C "symbols" 1 (spDSyms C)) : FnOk P w K mg base CX0 2 f fd ["self", "lengths", "rounds"] (spDInit K C) := by
  refine funD_ok0 F sc_DomainD_initD (fun vs H Q E h => ?_) (fun cdv A outer s H vs Q E hr h => ?_)
  · obtain ⟨x, d, r, dx, xs, wm, ts, rfl, _⟩ := h
    rfl
  · obtain ⟨x, d, r, dx, xs, wm, ts, rfl, hx, hW, hS, hpt, hO, k⟩ := h
    have hu := hu_of hr
    refine ⟨_, (pss_cons (ps_for PassesOwn.never rfl (pi_list (pe_callB (call_sortedD rfl) (by rfl) T.n_sorted (by decide +kernel) (pa_cons (pv 1) pa_nil))) (pg_name (i := 3) sc_DomainD_initD.nd rfl (Or.inl rfl))
      (pss_one (ps_if (PW.pt (pw_or (pt_not (pt_val (pe_cal c_isl (hr.mono (by decide)) (pa_cons (pv 3) pa_nil)))) (pw_or1 (pt_cmpR op_notIn_seq (pe_dget hu (pv 1) (pv 3) (fun _ _ => rfl)) (pe_glob (v := .ref AL) rfl D.hLW rfl) rfl)))) (pss_one ps_never) pss_nil)))
      (pss_cons (ps_fld (pv 0) (pe_callTy call_dictD (by rfl) T.n_dict (by decide +kernel) (pa_cons (pv 1) pa_nil)) rfl)
      (pss_cons (ps_fld (pv 0) (pe_lst pa_nil) rfl)
      (pss_one (ps_for PassesOwn.never rfl (pi_seq (pv 2)) (pg_tup rfl (pgs_cons (pg_name (i := 4) sc_DomainD_initD.nd rfl (Or.inl rfl)) (pgs_cons (pg_name (i := 3) sc_DomainD_initD.nd rfl (Or.inl rfl)) (pgs_cons (pg_name (i := 5) sc_DomainD_initD.nd rfl (Or.inl rfl)) pgs_nil))))
      (pss_cons (ps_if (PW.pt (pw_or (pt_not (pt_val (pe_cal c_isr (hr.mono (by decide)) (pa_cons (pv 4) pa_nil)))) (pw_or1 (pt_cmpR op_in_seq (pv 4) (pe_calM0 c_dsyms (hr.mono (by decide)) (pv 0)) rfl)))) (pss_one ps_never) pss_nil)
      (pss_cons (ps_if (PW.pt (pw_or (pt_cmpR op_ne (pe_dget1 hu (pe_fld (pv 0) rfl) (pv 3) ⟨rfl, rfl, rfl, rfl⟩) pe_str (nomark _)) (pw_or1 (pt_cmpR op_notIn_seq (pv 5) (pe_glob (v := .ref AR) rfl D.hRW rfl) rfl)))) (pss_one ps_never) pss_nil)
      (pss_one (ps_expr (pe_bm PySem.F.plainAttrs_list PySem.F.slot_list_append PySem.F.type_list_append mt_append (pe_fld (pv 0) rfl) (pa_cons (pe_tup (pa_cons (pv 4) (pa_cons (pv 3) (pa_cons (pv 5) pa_nil)))) pa_nil))))))))))), ?_⟩
    walk_at "rd"
    have xd : x ≠ d := fun z => by rw [z, hW.at_] at hx; cases hx
    refine ⟨d, kvT wm, wm.map (·.1), rfl, .inl hW.at_, kvT_keys wm, by rw [List.length_map]; have := hO.few.1; omega, fun ys p hperm hsort hp => ?_⟩
    have Sp : Same H (upd H p (.lst (ys.map V.str))) := same_new (fun _ _ e => e) hp
    refine ⟨p, rfl, ⟨_, SqL.of upd_same⟩, for_list (a := p) (xs := ys.map V.str) (fun i σ H' => ∃ o : Option V, σ = [some (.ref x), some (.ref d), some (.ref r), o, none, none] ∧ Same (upd H p (.lst (ys.map V.str))) H') ⟨none, rfl, fun _ _ e => e⟩ (fun i σ H' _ ⟨_, _, s5⟩ => SqL.of (s5 _ _ upd_same)) ?_ ?_⟩
    · rintro i v σ H' hi ⟨o, rfl, S5⟩
      obtain ⟨y, hy, rfl⟩ := str_at hi
      have hym : y ∈ wm.map (·.1) := hperm.mem_iff.mp (List.mem_of_getElem? hy)
      have hq := wo_mem hym
      have hn := hO.nam _ hq
      walk_at "rd"
      refine ⟨lc_len hn.1, fun H1 S1 => ?_⟩
      walk_at "rd"
      rw [show isLc y.cps.toList = true from hn.1]
      refine ite2 (fun h => Bool.noConfusion h) (fun _ => ?_)
      walk_at "rd"
      refine ⟨d, _, rfl, wget (.inl (S1 _ _ (S5 _ _ (Sp _ _ hW.at_)))) hym, ?_⟩
      refine ⟨AL, _, rfl, .inr (D.sL _), rfl, rfl, ?_⟩
      walk_at "rd"
      refine ite2 (fun h => ?_) (fun _ => ⟨_, rfl, same_trans S5 S1⟩)
      exfalso
      have hw : wo wm y = "any" ∨ wo wm y = "none" ∨ wo wm y = "some" := hn.2
      revert h
      rcases hw with e | e | e
      all_goals
        rw [e]
        decide +kernel
    · rintro σ H' ⟨o, rfl, S5⟩
      have S1 := same_trans Sp S5
      walk_at "rd"
      refine ⟨d, _, rfl, .inl (S1 _ _ hW.at_), fun e he => ?_⟩
      have S2 := same_new (o := .dK (kvT wm)) S1 he
      walk_at "rd"
      refine ⟨x, C, dx, [], rfl, S2 _ _ hx, R.cl, R.n1, by decide, ?_⟩
      refine ⟨by show 0 ≤ sizeLine; decide, fun l hl => ?_⟩
      walk_at "rd"
      have xe : x ≠ e := fun z => by rw [← z, S1 _ _ hx] at he; cases he
      have xl : x ≠ l := fun z => by rw [← z, upd_same] at hl; cases hl
      have el : e ≠ l := fun z => by rw [← z, upd_ne xe.symm, upd_same] at hl; cases hl
      refine ⟨x, C, dx, _, rfl, (upd_ne xl).trans upd_same, R.cl, R.n2, by show 1 < 1000; decide, ?_⟩
      have S3 : Stay x H (upd (upd (upd (upd H' e (.dK (kvT wm))) x (.ins C dx (putF "_lengths" (.ref e) []))) l (.lst [])) x (.ins C dx (putF "_rounds" (.ref l) (putF "_lengths" (.ref e) [])))) := (((Stay.of S2).upd).new hl).upd
      walk_at "rd"
      refine ⟨r, xs, rfl, seq_or (H := H) (x := x) hS ⟨_, _, _, hx⟩ S3 (fun J wk => for_it wk (fun i σ H' => ∃ (o3 o4 o5 o6 : Option V) (acc : List V), σ = [some (.ref x), some (.ref d), some (.ref r), o3, o4, o5] ∧ H' x = some (.ins C dx [("_lengths", .ref e), ("_rounds", .ref l)]) ∧ H' e = some (.dK (kvT wm)) ∧ H' l = some (.lst acc) ∧ Paired (TripAt H') acc (ts.take i) ∧ Stay x H H') ?_ ?_ ?_ ?_)⟩
      · refine ⟨o, none, none, none, [], rfl, upd_same, ?_, ?_, .nil, S3⟩
        · rw [upd_ne xe.symm, upd_ne el, upd_ne xe.symm, upd_same]
        · rw [upd_ne xl.symm, upd_same]
      · rintro i σ H1 hi ⟨o3, o4, o5, o6, acc, rfl, q1, q2, q3, q4, S4⟩
        exact S4
      · rintro i v σ H1 H2 hi ⟨o3, o4, o5, o6, acc, rfl, q1, q2, q3, q4, S4⟩ ⟨rfl, hv⟩
        have hi' : i < ts.length := by rw [← paired_len hpt]; exact hi
        obtain ⟨t, ht, a, rfl, hat⟩ := paired_at hpt hv
        have htm := List.mem_of_getElem? ht
        obtain ⟨r1, r2, r3⟩ := hO.rnd t htm
        have ax : a ≠ x := fun z => by rw [z, hx] at hat; cases hat
        refine ⟨a, _, rfl, SqT.of (S4 _ _ ax hat), rfl, ?_⟩
        walk_at "rd"
        refine ⟨rc_len r1, fun H3 Sa => ?_⟩
        walk_at "rd"
        rw [show isRc t.1.cps.toList = true from r1]
        refine ite2 (fun h => Bool.noConfusion h) (fun _ => ?_)
        walk_at "rd"
        have S5 := S4.trans (Stay.of Sa)
        have p1 := Sa _ _ q1
        have p2 := Sa _ _ q2
        have p3 := Sa _ _ q3
        have p4 := paired_map (fun _ _ q => TripAt.same q Sa) q4
        have hDm : DomAt C H3 x wm (ts.take i) := ⟨dx, e, l, p1, ⟨p2, hW.nd⟩, acc, p3, p4⟩
        refine ⟨x, dx, _, rfl, p1, rfl, ?_⟩
        refine ⟨x, wm, ts.take i, rfl, hDm, hO.few.1, (hO.sub i).few.2, fun l2 zs H4 zperm zsort hl2 hl2' Sb => ?_⟩
        refine ⟨l2, _, rfl, .inl (SqL.of hl2'), rfl, flat_strs _, ?_⟩
        rw [inV_str]
        have nin : t.1 ∉ zs := fun hz => by
          have hz := zperm.mem_iff.mp hz
          have h1 : (syms wm (ts.take (i + 1))).Nodup := (hO.sub (i + 1)).nd
          unfold syms at h1 hz
          rw [List.take_succ, ht, List.map_append, ← List.append_assoc, List.nodup_append] at h1
          exact h1.2.2 _ hz _ (by simp) rfl
        walk_at "rd"
        refine ite2 (fun h => absurd (by simpa using h) nin) (fun _ => ?_)
        have S6 := S5.trans (Stay.of Sb)
        have p1 := Sb _ _ p1
        have p2 := Sb _ _ p2
        have p3 := Sb _ _ p3
        have p4 := paired_map (fun _ _ q => TripAt.same q Sb) p4
        have hm : t.2.1 ∈ wm.map (·.1) := List.mem_map.mpr ⟨_, r2, rfl⟩
        have hw : wo wm t.2.1 = "some" := wo_in hW.nd r2
        walk_at "rd"
        refine ⟨x, C, dx, _, .ref e, rfl, p1, R.cl, R.n1, rfl, ?_⟩
        refine ⟨e, rfl, .inl ⟨_, .inl p2⟩, ?_⟩
        walk_at "rd"
        refine ⟨_, wget (.inl p2) hm, rfl, ?_⟩
        rw [hw]
        walk_at "rd"
        refine ⟨AR, _, rfl, .inr (D.sR _), rfl, rfl, ?_⟩
        walk_at "rd"
        refine ite2 (fun h => ?_) (fun _ => ?_)
        · exfalso
          revert h
          rcases r3 with e | e
          all_goals
            rw [e]
            decide +kernel
        walk_at "rd"
        refine ⟨x, C, dx, _, .ref l, rfl, p1, R.cl, R.n2, rfl, ?_⟩
        refine ⟨.inl ⟨rfl, _, SqL.of p3⟩, ?_⟩
        walk_at "rd"
        refine ⟨by show 3 ≤ sizeLine; decide, fun z hz => ?_⟩
        obtain ⟨acc2, g1, g2, g3⟩ := trips_push (a := t.1) (b := t.2.1) (c := t.2.2) ⟨acc, p3, p4⟩ hz
        obtain ⟨acc3, g4, g5⟩ := g3
        have zl : z ≠ l := fun q => by rw [q, p3] at hz; cases hz
        have ez : e ≠ z := fun q => by rw [← q, p2] at hz; cases hz
        have xz : x ≠ z := fun q => by rw [← q, p1] at hz; cases hz
        refine ⟨l, acc2, .ref z, rfl, rfl, g1, ?_, ?_⟩
        · rw [g2, List.length_take]
          have := hO.few.2
          exact Nat.lt_of_lt_of_le (m := 64) (by omega) (by decide)
        refine ⟨_, _, _, none, acc3, rfl, ?_, ?_, g4, ?_, ?_⟩
        · rw [upd_ne xl, upd_ne xz]
          exact p1
        · rw [upd_ne el, upd_ne ez]
          exact p2
        · rw [List.take_succ, ht]
          exact g5
        · intro a o na ea
          have al : a ≠ l := by
            rintro rfl
            have q : H' a = none := by
              rw [upd_ne xl.symm, upd_ne el.symm] at hl
              exact hl
            rw [S1 _ _ ea] at q
            cases q
          rw [upd_ne al]
          exact S6.new hz a o na ea
      · rintro σ H1 ⟨o3, o4, o5, o6, acc, rfl, q1, q2, q3, q4, S4⟩
        rw [paired_len hpt, List.take_length] at q4
        have hln : H' l = none := by
          rw [upd_ne xl.symm, upd_ne el.symm] at hl
          exact hl
        exact k H1 e l ⟨q1, ⟨q2, hW.nd⟩, acc, q3, q4⟩ (none_back S1 he) (none_back S1 hln) S4
abbrev s_DomainD_containsD : Stmt := inClass (top 23) 2
theorem sc_DomainD_containsD : FnScope ["self", "x", "fits", "name", "word", "symbol"] ["self", "x"] (defScope s_DomainD_containsD) := ⟨rfl, rfl, rfl, by decide +kernel, rfl, by decide +kernel, by decide +kernel⟩
theorem ok_din {f : Addr} {fd : FuncData} (F : Fun K "__contains__" "Domain.__contains__" s_DomainD_containsD f fd) (T : Txt mg) (R : DomK K C) (c_fitl : Cal P w K mg base "fits_length" 1 spFitL) (c_fitr : Cal P w K mg base "_fits_round" 1 spFitR) (c_dsyms : CalM P w K mg base C "symbols" 1 (spDSyms C)) : FnOk P w K mg base CX0 2 f fd ["self", "x"] (spDIn C) := by
  refine F.ok sc_DomainD_containsD (fun vs H Q E h => ?_) (fun cdv A outer s H vs Q E hr h => ?_)
  · obtain ⟨p, v, wm, ts, m, rfl, _⟩ := h
    rfl
  · obtain ⟨p, v, wm, ts, m, rfl, hD, hO, hV, hm, k⟩ := h
    obtain ⟨dx, d, l, h1, h2, xs, h3, h4⟩ := id hD
    have hu := hu_of hr
    refine ⟨_, (pss_cons (ps_if (pt_cmpR (op_neD hr.units) (pe_callB (call_sortedD rfl) (by rfl) T.n_sorted (by decide +kernel) (pa_cons (pv 1) pa_nil)) (pe_calM0 c_dsyms (hr.mono (by decide)) (pv 0)) (nomark _)) (pss_one (ps_ret pe_bl)) pss_nil)
      (pss_cons (ps_lock (ps_setLc (i := 2) (own := [("name", 3), ("word", 4)]) (g := gTup _ 2 (gCons (gName 3) (gCons (gName 4) (gNil)))) (by rfl) sc_DomainD_containsD.nd rfl rfl (sw_true rfl rfl rfl (by decide +kernel)) (pi_items (pe_fld (pv 0) rfl)) (blkOk_by (own := [("name", 3), ("word", 4)]) (N := ["self", "x", "fits", "name", "word", "symbol"]) (sc := defScope s_DomainD_containsD) (by decide +kernel)) (fun _ _ _ _ _ => (pg_tup rfl (pgs_cons (pg_name (i := 3) sc_DomainD_containsD.nd rfl (Or.inl rfl)) (pgs_cons (pg_name (i := 4) sc_DomainD_containsD.nd rfl (Or.inl rfl)) pgs_nil)))) (fun _ _ _ _ _ => pts_nil) (fun _ _ _ _ _ => (pe_cal c_fitl (hr.mono (by decide)) (pa_cons (pv 4) (pa_cons (pe_dget hu (pv 1) (pv 3) (fun _ _ => rfl)) pa_nil))))))
      (pss_one (ps_ret (pe_and (pe_callB (cr_all rfl) (by rfl) T.n_all (by decide +kernel) (pa_cons (pv 2) pa_nil)) (pe_one (pe_callB (cr_all rfl) (by rfl) T.n_all (by decide +kernel) (pa_cons (pe_lc (own := [("symbol", 5), ("name", 3), ("word", 4)]) (g := gTup _ 3 (gCons (gName 5) (gCons (gName 3) (gCons (gName 4) (gNil))))) (by rfl) sc_DomainD_containsD.nd (pi_list (pe_fld (pv 0) rfl)) (blkOk_by (own := [("symbol", 5), ("name", 3), ("word", 4)]) (N := ["self", "x", "fits", "name", "word", "symbol"]) (sc := defScope s_DomainD_containsD) (by decide +kernel)) (fun _ _ _ _ _ => (pg_tup rfl (pgs_cons (pg_name (i := 5) sc_DomainD_containsD.nd rfl (Or.inl rfl)) (pgs_cons (pg_name (i := 3) sc_DomainD_containsD.nd rfl (Or.inl rfl)) (pgs_cons (pg_name (i := 4) sc_DomainD_containsD.nd rfl (Or.inl rfl)) pgs_nil))))) (fun _ _ _ _ _ => pts_nil) (fun _ _ _ _ _ => (pe_cal c_fitr (hr.mono (by decide)) (pa_cons (pv 4) (pa_cons (pe_dget hu (pv 1) (pv 5) (fun _ _ => rfl)) (pa_cons (pe_dget hu (pv 1) (pv 3) (fun _ _ => rfl)) pa_nil)))))) pa_nil)))))))), ?_⟩
    walk_at "rd"
    refine ⟨v, kvI m, m.map (·.1), rfl, .inl hV.at_, kvI_keys m, by rw [List.length_map]; omega, fun ys q hperm hsort hq => ?_⟩
    have S1 : Same H (upd H q (.lst (ys.map V.str))) := same_new (fun _ _ e => e) hq
    walk_at "rd"
    refine ⟨p, dx, _, rfl, S1 _ _ h1, rfl, ?_⟩
    refine ⟨p, wm, ts, rfl, hD.same S1, hO.few.1, hO.few.2, fun l2 zs H4 zperm zsort hl2 hl2' Sb => ?_⟩
    have S4 := same_trans S1 Sb
    have hys : ∀ y ∈ ys, isSym y = true := fun y hy => by
      obtain ⟨z, hz, rfl⟩ := List.mem_map.mp (hperm.mem_iff.mp hy)
      exact hV.sym z hz
    refine ⟨.list (datS ys), .list (datS zs), .lst (SqL.of (Sb _ _ upd_same)) (dpAll_s _), .lst (SqL.of hl2') (dpAll_s _), shapedS hys, shapedS fun y hy => hO.sym y (zperm.mem_iff.mp hy), _, rfl, ?_⟩
    rw [eqvLS]
    have iff := srt_iff hperm zperm hsort zsort
    refine ite2 (fun h => ?_) (fun h => ?_)
    · walk_at "rd"
      refine k false _ ⟨fun h => Bool.noConfusion h, fun F => ?_⟩ S4
      rw [iff.mpr F.keys] at h
      simp at h
    · have hk : (m.map (·.1)).Perm (syms wm ts) := iff.mp (by simpa using h)
      have hin : ∀ s ∈ syms wm ts, s ∈ m.map (·.1) := fun s hs => hk.mem_iff.mpr hs
      walk_at "rd"
      have h2' := (h2.same S4).at_
      refine ⟨d, .dK (kvT wm), h2', True.intro, fun od => ?_⟩
      have pd : p ≠ d := fun z => by rw [z, h2.at_] at h1; cases h1
      have vd : ∀ {i : Nat}, i < wm.length → v ≠ d := fun {i} hi z => by
        subst z
        have e := h2.at_.symm.trans hV.at_
        have e : kvT wm = kvI m := by
          injection e with e
          injection e with e
        have e1 : (kvT wm)[i]? = some (Sum.inr wm[i].1, V.str wm[i].2) := by
          unfold kvT
          rw [List.getElem?_map, List.getElem?_eq_getElem hi]
          rfl
        rw [e] at e1
        obtain ⟨q, _, _, z⟩ := kvI_at e1
        cases z
      walk_at "rd"
      refine ⟨p, C, dx, _, .ref d, rfl, (upd_ne pd).trans (S4 _ _ h1), R.cl, R.n1, rfl, ?_⟩
      refine ⟨d, od, kvT wm, rfl, upd_same, fun D hDn => lc_it walk_items (fun i H2 => H2 D = some (.lst (((wm.take i).map fun q => fitL q.2 (co m q.1)).map V.bl)) ∧ Same (upd H4 d (.frz od (.dK (kvT wm)))) H2) ⟨upd_same, same_new (fun _ _ e => e) hDn⟩ (fun i H2 _ h => h.2 _ _ upd_same) ?_ ?_⟩
      · rintro i x H1 _ hi ⟨hDk, S6⟩ ⟨t, kx, vx, rfl, ht, rfl, g1, g2⟩
        rw [kvT_len] at hi
        obtain ⟨⟨y, z⟩, hq, rfl, rfl⟩ : ∃ q, wm[i]? = some q ∧ kx = V.str q.1 ∧ vx = V.str q.2 := by
          have g1 : (kvT wm)[i]?.map (fun kv => kV kv.1) = some kx := g1
          have g2 : (kvT wm)[i]?.map Prod.snd = some vx := g2
          cases e : (kvT wm)[i]? with
          | none => rw [e] at g1; cases g1
          | some kv =>
            obtain ⟨k0, v0⟩ := kv
            obtain ⟨q, hq, rfl, rfl⟩ := kvT_at e
            rw [e] at g1 g2
            exact ⟨q, hq, (Option.some.inj g1).symm, (Option.some.inj g2).symm⟩
        have Dt : D ≠ t := fun z => by rw [z, ht] at hDk; cases hDk
        refine ⟨t, _, rfl, SqT.of upd_same, rfl, ?_⟩
        walk_at "rd"
        have hmem : y ∈ m.map (·.1) := hin y (List.mem_append.mpr (.inl (List.mem_map.mpr ⟨_, List.mem_of_getElem? hq, rfl⟩)))
        have hv1 : upd H1 t (.tup [.str y, .str z]) v = some (.dK (kvI m)) := same_new S6 ht _ _ ((upd_ne (vd hi)).trans (S4 _ _ hV.at_))
        refine ⟨v, _, rfl, dget_r (.inl hv1) hV.nd hmem, ?_⟩
        refine ⟨z, co m y, rfl, ?_⟩
        refine ⟨_, (upd_ne Dt).trans hDk, ?_, ?_, same_over (same_new S6 ht) hDn⟩
        · simp only [List.length_map, List.length_take]
          have := hO.few.1
          exact Nat.lt_of_lt_of_le (m := 64) (by omega) (by decide)
        · rw [upd_same, List.take_succ, hq, List.map_append, List.map_append]
          rfl
      · rintro H2 ⟨hDk, S6⟩
        rw [kvT_len, List.take_length] at hDk
        have S7 := same_trans S4 (same_unlock h2' S6)
        have Dd : D ≠ d := fun z => by rw [z, upd_same] at hDn; cases hDn
        walk_at "rd"
        refine ⟨S6 _ _ upd_same, ?_⟩
        walk_at "rd"
        refine ⟨D, _, rfl, SqL.of ((upd_ne Dd).trans hDk), ?_⟩
        walk_at "rd"
        refine ite2 (fun h => ?_) (fun h => ?_)
        · have hF : ∀ q ∈ wm, fitL q.2 (co m q.1) = true := fun q hq => by
            have h := List.all_eq_true.mp h _ (List.mem_map.mpr ⟨q, hq, rfl⟩)
            exact h
          walk_at "rd"
          refine ⟨p, C, dx, _, .ref l, rfl, S7 _ _ h1, R.cl, R.n2, rfl, ?_⟩
          refine ⟨l, rfl, ⟨_, SqL.of (S7 _ _ h3)⟩, fun D2 hD2 => lc_list (a := l) (xs := xs) (fun i H' => H' D2 = some (.lst (((ts.take i).map fun t => fitR t.2.2 (co m t.1) (co m t.2.1)).map V.bl)) ∧ Same (upd H2 d (.dK (kvT wm))) H') ⟨upd_same, same_new (fun _ _ e => e) hD2⟩ (fun i H' _ h => SqL.of (h.2 _ _ (S7 _ _ h3))) ?_ ?_⟩
          · rintro i x H' hi ⟨ha, S5⟩
            obtain ⟨t, ht, a, rfl, hat⟩ := paired_at h4 hi
            have htm := List.mem_of_getElem? ht
            have S8 := same_trans S7 S5
            refine ⟨a, _, rfl, SqT.of (S8 _ _ hat), rfl, ?_⟩
            walk_at "rd"
            have m1 := hin t.1 (List.mem_append.mpr (.inr (List.mem_map.mpr ⟨_, htm, rfl⟩)))
            have m2 := hin t.2.1 (List.mem_append.mpr (.inl (List.mem_map.mpr ⟨_, (hO.rnd t htm).2.1, rfl⟩)))
            refine ⟨v, _, rfl, dget_r (.inl (S8 _ _ hV.at_)) hV.nd m1, ?_⟩
            walk_at "rd"
            refine ⟨v, _, rfl, dget_r (.inl (S8 _ _ hV.at_)) hV.nd m2, ?_⟩
            refine ⟨t.2.2, co m t.1, co m t.2.1, rfl, ?_⟩
            refine ⟨_, ha, ?_, ?_, same_over S5 hD2⟩
            · simp only [List.length_map, List.length_take]
              have := hO.few.2
              exact Nat.lt_of_lt_of_le (m := 64) (by omega) (by decide)
            · rw [upd_same, List.take_succ, ht, List.map_append, List.map_append]
              rfl
          · rintro H' ⟨ha, S5⟩
            rw [paired_len h4, List.take_length] at ha
            refine ⟨D2, _, rfl, SqL.of ha, ?_⟩
            refine k _ _ ⟨fun h => ⟨hk, hF, fun t ht => ?_⟩, fun F => ?_⟩ (same_trans S7 S5)
            · exact List.all_eq_true.mp h _ (List.mem_map.mpr ⟨t, ht, rfl⟩)
            · rw [List.all_eq_true]
              rintro b hb
              obtain ⟨t, ht, rfl⟩ := List.mem_map.mp hb
              exact F.rnd t ht
        · refine k false _ ⟨fun z => Bool.noConfusion z, fun F => absurd ?_ h⟩ S7
          rw [List.all_eq_true]
          rintro b hb
          obtain ⟨q, hq, rfl⟩ := List.mem_map.mp hb
          exact F.len q hq
end
end Ow

set_option Elab.async false
set_option linter.all false
set_option maxRecDepth 100000
set_option maxHeartbeats 4000000
namespace Ow
open PySem PySem.Spec PyProof.Rows L2
local macro_rules | `(tactic| walk_at "rd") => `(tactic| repeat (first | (refine ⟨_, rfl, ?_⟩) | (refine ⟨_, _, rfl, rfl, ?_⟩) | (refine ⟨rfl, ?_⟩) | (refine ⟨_, _, rfl, ?_⟩) | (refine Or.inl ⟨_, rfl, ?_⟩) | (refine ⟨(by first | (show (0 : Int) < (_ : Int); decide) | exact Or.inl ⟨by decide, by decide⟩ | exact Or.inr ⟨by decide, by decide⟩ | exact ⟨by decide, by decide⟩ | exact ⟨by decide, by decide, by decide⟩), ?_⟩)))
section
variable {P : Program} {w : World} {K : PySem.W.Frag} {mg : Str → Option Value} {base : Heap} {C : Addr}
abbrev s_FormD_initD : Stmt := inClass (top 22) 0
theorem sc_FormD_initD : FnScope ["self", "constant", "coefficients", "symbol", "many"] ["self", "constant", "coefficients"] (defScope s_FormD_initD) := ⟨rfl, rfl, rfl, by decide +kernel, rfl, by decide +kernel, by decide +kernel⟩
theorem ok_init {f : Addr} {fd : FuncData} (F : FunD K "__init__" "Form.__init__" (defArgs s_FormD_initD) (defBody s_FormD_initD) (defScope s_FormD_initD) [.int 0] [] f fd) (T : Txt mg) (R : FormK K C) (c_iss : Cal P w K mg base "is_symbol" 2 spIsS) : KwX.KwOk P w K mg base 3 f (.int 0) (spInit C) := by
  refine KwX.run_kwdef F ⟨rfl, ⟨_, _, rfl, rfl, rfl⟩, rfl, rfl, ⟨_, rfl, rfl⟩⟩ sc_FormD_initD (fun cdv A outer s H vs Q E hr h => ?_)
  obtain ⟨x, d, dx, c, m, rfl, hx, hD, hL, k⟩ := h
  have hu := hu_of hr
  refine ⟨_, (pss_cons (ps_for PassesOwn.never rfl (pi_list (pe_callB (call_sortedD rfl) (by rfl) T.n_sorted (by decide +kernel) (pa_cons (pv 2) pa_nil))) (pg_name (i := 3) sc_FormD_initD.nd rfl (Or.inl rfl))
      (pss_one (ps_if (pt_not (pt_val (pe_cal c_iss (hr.mono (by decide)) (pa_cons (pv 3) pa_nil)))) (pss_one ps_never) pss_nil)))
      (pss_cons (ps_fld (pv 0) (pv 1) rfl)
      (pss_one (ps_fld (pv 0) (pe_lock (pe_dc (own := [("symbol", 3), ("many", 4)]) (g := gTup _ 2 (gCons (gName 3) (gCons (gName 4) (gNil)))) (by rfl) sc_FormD_initD.nd (pi_items (pv 2)) (blkOk_by (own := [("symbol", 3), ("many", 4)]) (N := ["self", "constant", "coefficients", "symbol", "many"]) (sc := defScope s_FormD_initD) (by decide +kernel)) (fun _ _ _ _ _ => (pg_tup rfl (pgs_cons (pg_name (i := 3) sc_FormD_initD.nd rfl (Or.inl rfl)) (pgs_cons (pg_name (i := 4) sc_FormD_initD.nd rfl (Or.inl rfl)) pgs_nil)))) (fun _ _ _ _ _ => (pts_one (pt_cmpR op_ne (pv 4) pe_int (nomark _)))) (fun _ _ _ _ _ => (pv 3)) (fun _ _ _ _ _ => (pv 4)))) rfl)))), ?_⟩
  walk_at "rd"
  refine ⟨d, kvI m, m.map (·.1), rfl, .inl hD.at_, kvI_keys m, by rw [List.length_map]; exact hL, fun ys p hperm hsort hp => ?_⟩
  have Sp : Same H (upd H p (.lst (ys.map V.str))) := same_new (fun _ _ e => e) hp
  refine ⟨p, rfl, ⟨_, SqL.of upd_same⟩, for_list (a := p) (xs := ys.map V.str) (fun i σ H' => ∃ o : Option V, σ = [some (.ref x), some (.int c), some (.ref d), o, none] ∧ Same (upd H p (.lst (ys.map V.str))) H') ⟨none, rfl, fun _ _ e => e⟩ (fun i σ H' _ ⟨_, _, s5⟩ => SqL.of (s5 _ _ upd_same)) ?_ ?_⟩
  · rintro i v σ H' hi ⟨o, rfl, S5⟩
    obtain ⟨y, hy, rfl⟩ := str_at hi
    have hym : isSym y = true := by
      obtain ⟨q, hq, rfl⟩ := List.mem_map.mp (hperm.mem_iff.mp (List.mem_of_getElem? hy))
      exact hD.sym q hq
    walk_at "rd"
    refine ⟨sym_len hym, fun H1 S1 => ?_⟩
    walk_at "rd"
    rw [hym]
    refine ite2 (fun h => Bool.noConfusion h) (fun _ => ?_)
    exact ⟨_, rfl, same_trans S5 S1⟩
  · rintro σ H' ⟨o, rfl, S5⟩
    have S1 := same_trans Sp S5
    have hx1 := S1 _ _ hx
    have hd1 := S1 _ _ hD.at_
    have xd : x ≠ d := fun z => by rw [z, hD.at_] at hx; cases hx
    walk_at "rd"
    refine ⟨x, C, dx, [], rfl, hx1, R.cl, R.n1, by decide, ?_⟩
    refine ⟨d, .dK (kvI m), (upd_ne xd.symm).trans hd1, True.intro, fun od => ?_⟩
    walk_at "rd"
    refine ⟨d, od, kvI m, rfl, upd_same, fun D hDn => dc_it walk_items (fun i H2 => H2 D = some (.dK (kvI (nzs (m.take i)))) ∧ Same (upd (upd H' x (.ins C dx (putF "constant" (.int c) []))) d (.frz od (.dK (kvI m)))) H2) ⟨upd_same, same_new (fun _ _ e => e) hDn⟩ (fun i H2 _ h => h.2 _ _ upd_same) ?_ ?_⟩
    · rintro i v H1 _ hi ⟨hDk, S6⟩ ⟨t, kx, vx, rfl, ht, rfl, h1, h2⟩
      obtain ⟨⟨y, z⟩, hq, rfl, rfl⟩ : ∃ q, m[i]? = some q ∧ kx = V.str q.1 ∧ vx = V.int q.2 := by
        have h1 : (kvI m)[i]?.map (fun kv => kV kv.1) = some kx := h1
        have h2 : (kvI m)[i]?.map Prod.snd = some vx := h2
        cases e : (kvI m)[i]? with
        | none => rw [e] at h1; cases h1
        | some kv =>
          obtain ⟨k0, v0⟩ := kv
          obtain ⟨q, hq, rfl, rfl⟩ := kvI_at e
          rw [e] at h1 h2
          exact ⟨q, hq, (Option.some.inj h1).symm, (Option.some.inj h2).symm⟩
      have Dt : D ≠ t := fun z => by rw [z, ht] at hDk; cases hDk
      refine ⟨t, _, rfl, SqT.of upd_same, rfl, ?_⟩
      walk_at "rd"
      refine ite2 (fun h => ?_) (fun h => ?_)
      · walk_at "rd"
        have hz : z ≠ 0 := by simpa using h
        have hn : y ∉ (nzs (m.take i)).map (·.1) := take_new (q := (y, z)) hD.nd hq
        have hnd : ((nzs (m.take i)).map (·.1)).Nodup := hD.nd.sublist (((nzs_sub _).trans (List.take_sublist _ _)).map _)
        have hlen : (kvI (nzs (m.take i))).length < sizeLine := by
          rw [kvI_len]
          refine Nat.lt_of_le_of_lt (nzs_sub _).length_le (Nat.lt_of_lt_of_le (m := 64) ?_ (by decide))
          rw [List.length_take]
          omega
        refine ⟨_, Sum.inr y, rfl, (upd_ne Dt).trans hDk, hlen, ?_, same_over (same_new S6 ht) hDn⟩
        rw [upd_same]
        show some (HO.dK (putK (kvI (nzs (m.take i))) (Sum.inr y) (V.int z))) = _
        rw [kvI_put y z hnd, putS_new _ _ _ hn, nzs_take hq, if_neg hz]
      · have hz : z = 0 := by simpa using h
        refine ⟨?_, same_new S6 ht⟩
        rw [upd_ne Dt, hDk, nzs_take hq, if_pos hz, List.append_nil]
    · rintro H2 ⟨hDk, S6⟩
      rw [kvI_len, List.take_length] at hDk
      refine ⟨S6 _ _ upd_same, ?_⟩
      walk_at "rd"
      have hx2 : upd H2 d (.dK (kvI m)) x = some (.ins C dx (putF "constant" (.int c) [])) := (upd_ne xd).trans (S6 _ _ ((upd_ne xd).trans upd_same))
      refine ⟨x, C, dx, _, rfl, hx2, R.cl, R.n2, by show 1 < 1000; decide, ?_⟩
      have Dd : D ≠ d := fun z => by rw [z, upd_same] at hDn; cases hDn
      rw [upd_ne Dd] at hDn
      have Dx : D ≠ x := fun z => by rw [z, upd_same] at hDn; cases hDn
      rw [upd_ne Dx] at hDn
      have hDn0 : H D = none := by
        cases e : H D with
        | none => rfl
        | some o => rw [S1 _ _ e] at hDn; cases hDn
      refine k D _ hDn0 ?_ ⟨(upd_ne Dx).trans ((upd_ne Dd).trans hDk), hD.nd.sublist ((nzs_sub _).map _), fun q hq => hD.sym q ((nzs_sub _).subset hq)⟩ fun a o na e => ?_
      · rw [upd_same]
        rfl
      · rw [upd_ne na]
        by_cases z : a = d
        · subst z
          rw [upd_same, ← hD.at_, e]
        · rw [upd_ne z]
          exact S6 _ _ ((upd_ne z).trans ((upd_ne na).trans (S1 _ _ e)))
abbrev s_Form_of : Stmt := inClass (top 22) 1
theorem sc_Form_of : FnScope ["cls", "constant", "pairs", "table", "symbol", "many"] ["cls", "constant", "pairs"] (defScope s_Form_of) := ⟨rfl, rfl, rfl, by decide +kernel, rfl, by decide +kernel, by decide +kernel⟩
theorem ok_of {f fi : Addr} {fd : FuncData} (F : Fun K "of" "Form.of" s_Form_of f fd) (T : Txt mg) (R : FormK K C) (M : Mk K C fi) (hForm : mg "Form" = some (.ref C)) (c_init : KwX.KwOk P w K mg base 3 fi (.int 0) (spInit C)) (c_iss : Cal P w K mg base "is_symbol" 2 spIsS) : FnOk P w K mg base CX0 5 f fd ["cls", "constant", "pairs"] (spOf C) := by
  refine F.ok sc_Form_of (fun vs H Q E h => ?_) (fun cdv A outer s H vs Q E hr h => ?_)
  · obtain ⟨c, l, ps, rfl, _⟩ := h
    rfl
  · obtain ⟨c, l, ps, rfl, ⟨xs, hl, hp⟩, hO, hL, k⟩ := h
    have hu := hu_of hr
    refine ⟨_, (pss_cons (ps_set (i := 3) sc_Form_of.nd rfl (Or.inl rfl) pe_dnewK)
      (pss_cons (ps_for PassesOwn.never rfl (pi_list (pv 2)) (pg_tup rfl (pgs_cons (pg_name (i := 4) sc_Form_of.nd rfl (Or.inl rfl)) (pgs_cons (pg_name (i := 5) sc_Form_of.nd rfl (Or.inl rfl)) pgs_nil)))
      (pss_cons (ps_if (pt_not (pt_val (pe_cal c_iss (hr.mono (by decide)) (pa_cons (pv 4) pa_nil)))) (pss_one ps_never) pss_nil)
      (pss_one (ps_dput hu (pv 3) (pv 4) (pe_op op_add (pe_dget2 hu (pv 3) (pv 4) pe_int ⟨rfl, rfl, rfl, rfl⟩) (pv 5)) rfl))))
      (pss_one (ps_ret (KwX.pe_mkT (E := E0) M c_init (hr.mono (by decide)) rfl hForm (pv 1) (pv 3)))))), ?_⟩
    refine fun d hd => ?_
    have S0 : Same H (upd H d (.dK [])) := same_new (fun _ _ e => e) hd
    walk_at "rd"
    refine ⟨⟨_, SqL.of (S0 _ _ hl)⟩, for_list (a := l) (xs := xs) (fun i σ H' => ∃ (o o' : Option V) (m : Ps), σ = [some (.ref C), some (.int c), some (.ref l), some (.ref d), o, o'] ∧ DictAt H' d m ∧ m.length ≤ i ∧ (∀ s, co m s = co (ps.take i) s) ∧ Same H H') ⟨none, none, [], rfl, DictAt.new, Nat.le_refl _, fun _ => rfl, S0⟩ (fun i σ H' _ ⟨_, _, _, _, _, _, _, s5⟩ => SqL.of (s5 _ _ hl)) ?_ ?_⟩
    · rintro i x σ H' hi ⟨o, o', m, rfl, hD, hm, hc, S5⟩
      obtain ⟨⟨x, v⟩, hq, t, rfl, ht⟩ := paired_at hp hi
      have hx : isSym x = true := hO _ (List.mem_of_getElem? hq)
      have hz : (kvI m).length < sizeLine := by
        rw [kvI_len]
        have : i < ps.length := (List.getElem?_eq_some_iff.mp hq).1
        exact Nat.lt_of_lt_of_le (m := 64) (by omega) (by decide)
      refine ⟨t, _, rfl, SqT.of (S5 _ _ ht), rfl, ?_⟩
      walk_at "rd"
      refine ⟨sym_len hx, fun H1 S1 => ?_⟩
      walk_at "rd"
      rw [hx]
      refine ite2 (fun h => Bool.noConfusion h) (fun _ => ?_)
      have hD := hD.same S1
      have S5 := same_trans S5 S1
      walk_at "rd"
      refine ⟨.inl ⟨_, .inl hD.at_⟩, ?_⟩
      walk_at "rd"
      refine ⟨_, DGet.k (k := Sum.inr x) hD.at_, ?_⟩
      rw [kvI_val m x hD.nd]
      walk_at "rd"
      refine ⟨d, _, rfl, DPut.k (k := Sum.inr x) hD.at_ hz, ?_⟩
      refine ⟨_, _, _, rfl, hD.put x _ hx, ?_, fun s => ?_, same_over S5 hd⟩
      · exact Nat.le_trans (putS_len _ _ _) (by omega)
      · rw [co_putS m x _ s hD.nd, take_snoc hq, co_snoc]
        by_cases e : s = x
        · rw [if_pos e, if_pos e, ← hc s, e]
        · rw [if_neg e, if_neg e, hc s, Int.add_zero]
    · rintro σ H' ⟨o, o', m, rfl, hD, hm, hc, S5⟩
      rw [paired_len hp] at hm hc
      walk_at "rd"
      refine fun d0 hd0 => ?_
      walk_at "rd"
      have dd0 : d ≠ d0 := fun z => by rw [← z, hD.at_] at hd0; cases hd0
      refine ⟨d, m.map fun p => (p.1, V.int p.2), rfl, dd0, ?_, upd_same, ?_, ?_, ?_⟩
      · rw [keyed_kvI, upd_ne dd0]
        exact hD.at_
      · rintro p hp
        obtain ⟨q, hq, rfl⟩ := List.mem_map.mp hp
        exact sym_ne (hD.sym q hq)
      · rw [List.map_map]
        exact hD.nd
      · rw [keyed_kvI]
        intro x dx e hx hdx he n1 n2 n3
        rw [keyed_kvI]
        have S6 : Same H' (upd (upd H' d0 (.dK [])) d0 (.dK (kvI m))) := same_over (same_new (fun _ _ e => e) hd0) hd0
        have S7 := same_new (o := .own x) S6 hdx
        have x1 : upd (upd (upd H' d0 (.dK [])) d0 (.dK (kvI m))) dx (.own x) x = none := (upd_ne n1.symm).trans hx
        have S8 := same_new (o := .ins C dx []) S7 x1
        have e1 : upd (upd (upd (upd H' d0 (.dK [])) d0 (.dK (kvI m))) dx (.own x)) x (.ins C dx []) e = none := (upd_ne n2).trans ((upd_ne n3).trans he)
        have S9 := same_new (o := .dK (kvI m)) S8 e1
        refine ⟨x, e, dx, c, m, rfl, (upd_ne n2.symm).trans upd_same, ⟨upd_same, hD.nd, hD.sym⟩, by omega, fun d' H2 hd' hx2 hD2 St => ⟨rfl, ?_⟩⟩
        have xn : H' x = none := by
          cases q : H' x with
          | none => rfl
          | some o => rw [S6 _ _ q] at hx; cases hx
        have xn0 : H x = none := by
          cases q : H x with
          | none => rfl
          | some o => rw [S5 _ _ q] at xn; cases xn
        refine k x (nzs m) H2 xn0 ⟨⟨dx, d', hx2, hD2⟩, nzs_nz⟩ (Nat.le_trans (nzs_sub _).length_le hm) (fun s => ?_) fun a o q => St a o (ne_of_none q xn0) (S9 _ _ (S5 _ _ q))
        rw [nzs_co, hc s, List.take_length]
abbrev s_Form_symbols : Stmt := inClass (top 22) 2
theorem sc_Form_symbols : FnScope ["self"] ["self"] (defScope s_Form_symbols) := ⟨rfl, rfl, rfl, by decide +kernel, rfl, by decide +kernel, by decide +kernel⟩
theorem ok_symbols {f : Addr} {fd : FuncData} (F : Fun K "symbols" "Form.symbols" s_Form_symbols f fd) (T : Txt mg) (R : FormK K C) : FnOk P w K mg base CX0 1 f fd ["self"] (spSymbols C) := by
  refine F.ok sc_Form_symbols (fun vs H Q E h => ?_) (fun cdv A outer s H vs Q E hr h => ?_)
  · obtain ⟨p, c, m, rfl, _⟩ := h
    rfl
  · obtain ⟨p, c, m, rfl, ⟨⟨dx, d, h1, h2⟩, hn⟩, hL, k⟩ := h
    have hu := hu_of hr
    refine ⟨_, (pss_one (ps_ret (pe_callB (call_sortedD rfl) (by rfl) T.n_sorted (by decide +kernel) (pa_cons (pe_fld (pv 0) rfl) pa_nil)))), ?_⟩
    walk_at "rd"
    refine ⟨p, C, dx, _, .ref d, rfl, h1, R.cl, R.n2, rfl, ?_⟩
    refine ⟨d, kvI m, m.map (·.1), rfl, .inl h2.at_, kvI_keys m, by rw [List.length_map]; exact hL, fun ys l hperm hsort hl => ?_⟩
    exact k l ys _ hperm hsort hl upd_same (same_new (fun _ _ e => e) hl)
abbrev s_FormDpairs : Stmt := inClass (top 22) 3
theorem sc_FormDpairs : FnScope ["self", "symbol"] ["self"] (defScope s_FormDpairs) := ⟨rfl, rfl, rfl, by decide +kernel, rfl, by decide +kernel, by decide +kernel⟩
theorem ok_fpairs {f : Addr} {fd : FuncData} (F : Fun K "_pairs" "Form._pairs" s_FormDpairs f fd) (T : Txt mg) (R : FormK K C) (c_symbols : CalM P w K mg base C "symbols" 1 (spSymbols C)) : FnOk P w K mg base CX0 2 f fd ["self"] (spFPairs C) := by
  refine F.ok sc_FormDpairs (fun vs H Q E h => ?_) (fun cdv A outer s H vs Q E hr h => ?_)
  · obtain ⟨p, c, m, rfl, _⟩ := h
    rfl
  · obtain ⟨p, c, m, rfl, hF, hL, k⟩ := h
    have hu := hu_of hr
    refine ⟨_, (pss_one (ps_ret (pe_lc (own := [("symbol", 1)]) (g := gName 1) (by rfl) sc_FormDpairs.nd (pi_list (pe_calM0 c_symbols (hr.mono (by decide)) (pv 0))) (blkOk_by (own := [("symbol", 1)]) (N := ["self", "symbol"]) (sc := defScope s_FormDpairs) (by decide +kernel)) (fun _ _ _ _ _ => (pg_name (i := 1) sc_FormDpairs.nd rfl (Or.inl rfl))) (fun _ _ _ _ _ => pts_nil) (fun _ _ _ _ _ => (pe_tup (pa_cons (pv 1) (pa_cons (pe_dget hu (pe_fldK (K := K) rfl (pv 0) rfl) (pv 1) (fun _ _ => rfl)) pa_nil))))))), ?_⟩
    obtain ⟨⟨dx, d, h1, h2⟩, hn⟩ := id hF
    walk_at "rd"
    refine ⟨p, dx, _, rfl, h1, rfl, ?_⟩
    refine ⟨p, c, m, rfl, hF, hL, fun l ys H1 hperm hsort hl hl1 S1 => ?_⟩
    have hys : ys.length < 64 := by rw [hperm.length_eq, List.length_map]; exact hL
    have hys2 : ys.length = m.length := by rw [hperm.length_eq, List.length_map]
    have hin : ∀ y ∈ ys, y ∈ m.map (·.1) := fun y hy => hperm.mem_iff.mp hy
    refine ⟨l, rfl, ⟨_, SqL.of hl1⟩, fun D hDn => lc_list (a := l) (xs := ys.map V.str) (fun i H' => ∃ acc, H' D = some (.lst acc) ∧ Paired (PairAt H') acc (canL (ys.take i) (co m)) ∧ acc.length ≤ i ∧ Same H1 H') ⟨[], upd_same, .nil, Nat.le_refl _, same_new (fun _ _ e => e) hDn⟩ (fun i H' _ ⟨_, _, _, _, s5⟩ => SqL.of (s5 _ _ hl1)) ?_ ?_⟩
    · rintro i x H' hi ⟨acc, hacc, hpa, hal, S5⟩
      obtain ⟨y, hy, rfl⟩ := str_at hi
      refine ⟨rfl, ?_⟩
      walk_at "rd"
      have hym := hin y (List.mem_of_getElem? hy)
      have S6 := same_trans S1 S5
      refine ⟨p, C, dx, _, .ref d, rfl, S6 _ _ h1, R.cl, R.n2, rfl, ?_⟩
      walk_at "rd"
      have hg : DGet H' d (.str y) (some (.int (co m y))) := dget_r (.inl (S6 _ _ h2.at_)) h2.nd hym
      refine ⟨d, _, rfl, hg, ?_⟩
      walk_at "rd"
      have h0 : co m y ≠ 0 := by
        obtain ⟨q, hq, rfl⟩ := List.mem_map.mp hym
        rw [co_in h2.nd hq]
        exact hn q hq
      refine ⟨by show 2 ≤ sizeLine; decide, fun t ht => ?_⟩
      obtain ⟨q1, q2⟩ := push_lc (x := y) (v := co m y) hacc hpa ht
      have hz : acc.length < sizeLine := Nat.lt_of_lt_of_le (m := 64) (by have := (List.getElem?_eq_some_iff.mp hy).1; omega) (by decide)
      refine ⟨acc, q1, hz, _, upd_same, ?_, ?_, same_over (same_new S5 ht) hDn⟩
      · rw [canL_take hy, if_neg h0]
        exact q2
      · rw [List.length_append]
        exact Nat.succ_le_succ hal
    · rintro H' ⟨acc, hacc, hpa, hal, S5⟩
      rw [List.length_map, List.take_length] at hpa
      have hD0 : H D = none := by
        cases q : H D with
        | none => rfl
        | some o => rw [S1 _ _ q] at hDn; cases hDn
      refine k D _ H' ⟨acc, hacc, hpa⟩ (canL_can (sorted_pw hsort) (hperm.nodup_iff.mpr h2.nd) fun s hs => ?_) (fun q hq => ?_) (Nat.le_trans (canL_len _ _) (by omega)) hD0 (same_trans S1 S5)
      · refine hperm.mem_iff.mpr (Classical.byContradiction fun n => hs (co_out n))
      · obtain ⟨q', hq', e⟩ := List.mem_map.mp (hin _ (canL_mem hq).1)
        rw [← e]
        exact h2.sym q' hq'
abbrev s_Form_written : Stmt := inClass (top 22) 4
theorem sc_Form_written : FnScope ["self"] ["self"] (defScope s_Form_written) := ⟨rfl, rfl, rfl, by decide +kernel, rfl, by decide +kernel, by decide +kernel⟩
theorem ok_fwritten {f : Addr} {fd : FuncData} (F : Fun K "written" "Form.written" s_Form_written f fd) (T : Txt mg) (R : FormK K C) (c_fpairs : CalM P w K mg base C "_pairs" 2 (spFPairs C)) : FnOk P w K mg base CX0 3 f fd ["self"] (spFWritten C) := by
  refine F.ok sc_Form_written (fun vs H Q E h => ?_) (fun cdv A outer s H vs Q E hr h => ?_)
  · obtain ⟨p, c, m, rfl, _⟩ := h
    rfl
  · obtain ⟨p, c, m, rfl, hF, hL, k⟩ := h
    have hu := hu_of hr
    refine ⟨_, (pss_one (ps_ret (pe_tup (pa_cons (pe_fld (pv 0) rfl) (pa_cons (pe_callTy call_tuple_of (by rfl) T.n_tuple (by decide +kernel) (pa_cons (pe_calM0 c_fpairs (hr.mono (by decide)) (pv 0)) pa_nil)) pa_nil))))), ?_⟩
    obtain ⟨⟨dx, d, h1, h2⟩, hn⟩ := id hF
    walk_at "rd"
    refine ⟨p, C, dx, _, .int c, rfl, h1, R.cl, R.n1, rfl, ?_⟩
    walk_at "rd"
    refine ⟨p, dx, _, rfl, h1, rfl, ?_⟩
    refine ⟨p, c, m, rfl, hF, hL, fun l L H1 hP hC hS hLl hl S1 => ?_⟩
    obtain ⟨xs, hx, hp⟩ := hP
    refine ⟨l, xs, rfl, .inl ⟨SqL.of hx, fun t ht => ?_⟩⟩
    walk_at "rd"
    refine ⟨by show 2 ≤ sizeLine; decide, fun t2 ht2 => ?_⟩
    exact k _ L _ (wr_new hp ht ht2) hC hS (same_new (same_new S1 ht) ht2)
end
end Ow

set_option Elab.async false
set_option linter.all false
set_option maxRecDepth 100000
set_option maxHeartbeats 4000000
namespace Ow
open PySem PySem.Spec PyProof.Rows L2
local macro_rules | `(tactic| walk_at "rd") => `(tactic| repeat (first | (refine ⟨_, rfl, ?_⟩) | (refine ⟨_, _, rfl, rfl, ?_⟩) | (refine ⟨rfl, ?_⟩) | (refine ⟨_, _, rfl, ?_⟩) | (refine Or.inl ⟨_, rfl, ?_⟩) | (refine ⟨(by first | (show (0 : Int) < (_ : Int); decide) | exact Or.inl ⟨by decide, by decide⟩ | exact Or.inr ⟨by decide, by decide⟩ | exact ⟨by decide, by decide⟩ | exact ⟨by decide, by decide, by decide⟩), ?_⟩)))
section
variable {P : Program} {w : World} {K : PySem.W.Frag} {mg : Str → Option Value} {base : Heap} {C : Addr}
abbrev s_FormD_mulD : Stmt := inClass (top 22) 16
theorem sc_FormD_mulD : FnScope ["self", "other", "symbol", "many"] ["self", "other"] (defScope s_FormD_mulD) := ⟨rfl, rfl, rfl, by decide +kernel, rfl, by decide +kernel, by decide +kernel⟩
theorem ok_mul {f : Addr} {fd : FuncData} (F : Fun K "__mul__" "Form.__mul__" s_FormD_mulD f fd) (T : Txt mg) (R : FormK K C) (hForm : mg "Form" = some (.ref C)) (c_of : CalC P w K mg base C "of" 5 (spOf C)) (c_fpairs : CalM P w K mg base C "_pairs" 2 (spFPairs C)) : FnOk P w K mg base CX0 6 f fd ["self", "other"] (spMul C) := by
  refine F.ok sc_FormD_mulD (fun vs H Q E h => ?_) (fun cdv A outer s H vs Q E hr h => ?_)
  · obtain ⟨p, c, m, k0, rfl, _⟩ := h
    rfl
  · obtain ⟨p, c, m, k0, rfl, hF, hm, hk, hmk, k⟩ := h
    have hu := hu_of hr
    refine ⟨_, (pss_cons (ps_if (pt_val (pe_callB call_isi (by rfl) T.n_isinstance (by decide +kernel) (pa_cons (pv 1) (pa_cons (pe_bltn (v := .ty "int") rfl T.n_int rfl rfl) pa_nil)))) (pss_one (ps_ret (pe_calC c_of (hr.mono (by decide)) (pe_glob (v := .ref C) rfl hForm rfl) (pa_cons (pe_op (op_or op_mul op_mulW) (pe_fld (pv 0) rfl) (pv 1)) (pa_cons (pe_lc (own := [("symbol", 2), ("many", 3)]) (g := gTup _ 2 (gCons (gName 2) (gCons (gName 3) (gNil)))) (by rfl) sc_FormD_mulD.nd (pi_list (pe_calM0 c_fpairs (hr.mono (by decide)) (pv 0))) (blkOk_by (own := [("symbol", 2), ("many", 3)]) (N := ["self", "other", "symbol", "many"]) (sc := defScope s_FormD_mulD) (by decide +kernel)) (fun _ _ _ _ _ => (pg_tup rfl (pgs_cons (pg_name (i := 2) sc_FormD_mulD.nd rfl (Or.inl rfl)) (pgs_cons (pg_name (i := 3) sc_FormD_mulD.nd rfl (Or.inl rfl)) pgs_nil)))) (fun _ _ _ _ _ => pts_nil) (fun _ _ _ _ _ => (pe_tup (pa_cons (pv 2) (pa_cons (pe_op (op_or op_mul op_mulW) (pv 3) (pv 1)) pa_nil))))) pa_nil))))) pss_nil)
      (pss_one ps_never)), ?_⟩
    obtain ⟨⟨dx, d, h1, h2⟩, _⟩ := id hF
    walk_at "rd"
    refine ⟨.int k0, .ty "int", .type "int", .type "int", true, rfl, .ty "int", .base (.int k0), kit_same _, ?_⟩
    walk_at "rd"
    refine ⟨p, C, dx, _, .int c, rfl, h1, R.cl, R.n1, rfl, ?_⟩
    walk_at "rd"
    refine (fun z => hk.elim (fun h => .inl ⟨c, k0, rfl, rfl, h, z⟩) (fun h => .inr ⟨c, k0, rfl, rfl, h, z⟩)) ?_
    walk_at "rd"
    refine ⟨p, dx, _, rfl, h1, rfl, ?_⟩
    refine ⟨p, c, m, rfl, hF, by omega, fun l L H1 hP hC hS hLl hl S1 => ?_⟩
    obtain ⟨xs, hx, hp⟩ := hP
    have hLm : ∀ q ∈ L, MulOk q.2 k0 := fun q hq => by
      have e1 : co m q.1 = q.2 := by rw [← hC.val, co_in hC.nd hq]
      have e2 : q.1 ∈ m.map (·.1) := Classical.byContradiction fun n => hC.nz q hq (by rw [← e1, co_out n])
      obtain ⟨r, hr, e3⟩ := List.mem_map.mp e2
      have e4 : co m r.1 = r.2 := co_in h2.nd hr
      rw [← e1, ← e3, e4]
      exact hmk r hr
    refine ⟨l, rfl, ⟨_, SqL.of hx⟩, fun D hD => lc_list (a := l) (xs := xs) (fun i H' => ∃ acc, H' D = some (.lst acc) ∧ Paired (PairAt H') acc ((L.take i).map fun q => (q.1, q.2 * k0)) ∧ acc.length ≤ i ∧ Same H1 H') ⟨[], upd_same, .nil, Nat.le_refl _, same_new (fun _ _ e => e) hD⟩ (fun i H' _ ⟨_, _, _, _, s5⟩ => SqL.of (s5 _ _ hx)) ?_ ?_⟩
    · rintro i x H' hi ⟨acc, hacc, hpa, hal, S5⟩
      obtain ⟨⟨y, z⟩, hq, t, rfl, ht⟩ := paired_at hp hi
      have hz := hLm _ (List.mem_of_getElem? hq)
      refine ⟨t, _, rfl, SqT.of (S5 _ _ ht), rfl, ?_⟩
      walk_at "rd"
      refine (fun q => hz.elim (fun h => .inl ⟨z, k0, rfl, rfl, h, q⟩) (fun h => .inr ⟨z, k0, rfl, rfl, h, q⟩)) ?_
      walk_at "rd"
      refine ⟨by show 2 ≤ sizeLine; decide, fun t2 ht2 => ?_⟩
      obtain ⟨q1, q2⟩ := push_lc (x := y) (v := z * k0) hacc hpa ht2
      have hzz : acc.length < sizeLine := Nat.lt_of_lt_of_le (m := 64) (by have := (List.getElem?_eq_some_iff.mp hq).1; omega) (by decide)
      refine ⟨acc, q1, hzz, _, upd_same, ?_, ?_, same_over (same_new S5 ht2) hD⟩
      · rw [take_snoc hq, List.map_append]
        exact q2
      · rw [List.length_append]
        exact Nat.succ_le_succ hal
    · rintro H' ⟨acc, hacc, hpa, hal, S5⟩
      rw [paired_len hp, List.take_length] at hpa
      refine ⟨c * k0, D, L.map fun q => (q.1, q.2 * k0), rfl, ⟨acc, hacc, hpa⟩, fun q hq => ?_, by rw [List.length_map]; omega, fun p' m2 H2 hp' hF2 hl2 hco S2 => ?_⟩
      · obtain ⟨r, hr, rfl⟩ := List.mem_map.mp hq
        exact hS r hr
      · rw [List.length_map] at hl2
        refine k p' m2 H2 (none_back (same_trans S1 S5) hp') hF2 (fun s => ?_) (by omega) (same_trans (same_trans S1 S5) S2)
        rw [hco, co_mul, hC.val]
abbrev s_FormD_negD : Stmt := inClass (top 22) 13
theorem sc_FormD_negD : FnScope ["self"] ["self"] (defScope s_FormD_negD) := ⟨rfl, rfl, rfl, by decide +kernel, rfl, by decide +kernel, by decide +kernel⟩
theorem ok_neg {f : Addr} {fd : FuncData} (F : Fun K "__neg__" "Form.__neg__" s_FormD_negD f fd) (T : Txt mg) (R : FormK K C) (c_mul : CalO P w K mg base C .Mult 6 (spMul C)) : FnOk P w K mg base CX0 7 f fd ["self"] (spNeg C) := by
  refine F.ok sc_FormD_negD (fun vs H Q E h => ?_) (fun cdv A outer s H vs Q E hr h => ?_)
  · obtain ⟨p, c, m, rfl, _⟩ := h
    rfl
  · obtain ⟨p, c, m, rfl, hF, hm, k⟩ := h
    have hu := hu_of hr
    refine ⟨_, (pss_one (ps_ret (pe_op (op_calO c_mul (hr.mono (by decide))) (pv 0) (pe_un un_neg pe_int)))), ?_⟩
    obtain ⟨⟨dx, d, h1, h2⟩, _⟩ := id hF
    walk_at "rd"
    refine ⟨p, dx, _, rfl, h1, .inl ⟨-1, rfl⟩, p, c, m, -1, rfl, hF, by omega, MulOk.neg c, fun q _ => MulOk.neg q.2, fun p' m' H' hp' hF' hco hl S => ?_⟩
    rw [show c * -1 = -c by omega] at hF'
    exact k p' m' H' hp' hF' (fun s => (hco s).trans (by show co m s * -1 = -co m s; omega)) hl S
end
end Ow

set_option Elab.async false
set_option linter.all false
set_option maxRecDepth 100000
set_option maxHeartbeats 4000000
namespace Ow
open PySem PySem.Spec PyProof.Rows L2
local macro_rules | `(tactic| walk_at "rd") => `(tactic| repeat (first | (refine ⟨_, rfl, ?_⟩) | (refine ⟨_, _, rfl, rfl, ?_⟩) | (refine ⟨rfl, ?_⟩) | (refine ⟨_, _, rfl, ?_⟩) | (refine Or.inl ⟨_, rfl, ?_⟩) | (refine ⟨(by first | (show (0 : Int) < (_ : Int); decide) | exact Or.inl ⟨by decide, by decide⟩ | exact Or.inr ⟨by decide, by decide⟩ | exact ⟨by decide, by decide⟩ | exact ⟨by decide, by decide, by decide⟩), ?_⟩)))
section
variable {P : Program} {w : World} {K : PySem.W.Frag} {mg : Str → Option Value} {base : Heap} {C : Addr}
abbrev s_FormD_getitemD : Stmt := inClass (top 22) 8
theorem sc_FormD_getitemD : FnScope ["self", "at"] ["self", "at"] (defScope s_FormD_getitemD) := ⟨rfl, rfl, rfl, by decide +kernel, rfl, by decide +kernel, by decide +kernel⟩
theorem ok_get {f : Addr} {fd : FuncData} (F : Fun K "__getitem__" "Form.__getitem__" s_FormD_getitemD f fd) (T : Txt mg) (R : FormK K C) : FnOk P w K mg base CX0 1 f fd ["self", "at"] (spGet C) := by
  refine F.ok sc_FormD_getitemD (fun vs H Q E h => ?_) (fun cdv A outer s H vs Q E hr h => ?_)
  · obtain ⟨p, c, m, x, rfl, _⟩ := h
    rfl
  · obtain ⟨p, c, m, x, rfl, ⟨⟨dx, d, h1, h2⟩, hn⟩, k⟩ := h
    have hu := hu_of hr
    refine ⟨_, (pss_one (ps_ret (pe_dget2 hu (pe_fld (pv 0) rfl) (pv 1) pe_int ⟨rfl, rfl, rfl, rfl⟩))), ?_⟩
    walk_at "rd"
    refine ⟨p, C, dx, _, .ref d, rfl, h1, R.cl, R.n2, rfl, ?_⟩
    refine ⟨d, rfl, .inl ⟨_, .inl h2.at_⟩, ?_⟩
    walk_at "rd"
    refine ⟨_, DGet.k (k := Sum.inr x) h2.at_, ?_⟩
    rw [kvI_val m x h2.nd]
    exact k
end
end Ow

set_option Elab.async false
set_option linter.all false
set_option maxRecDepth 100000
set_option maxHeartbeats 4000000
namespace Ow
open PySem PySem.Spec PyProof.Rows L2
local macro_rules | `(tactic| walk_at "rd") => `(tactic| repeat (first | (refine ⟨_, rfl, ?_⟩) | (refine ⟨_, _, rfl, rfl, ?_⟩) | (refine ⟨rfl, ?_⟩) | (refine ⟨_, _, rfl, ?_⟩) | (refine Or.inl ⟨_, rfl, ?_⟩) | (refine ⟨(by first | (show (0 : Int) < (_ : Int); decide) | exact Or.inl ⟨by decide, by decide⟩ | exact Or.inr ⟨by decide, by decide⟩ | exact ⟨by decide, by decide⟩ | exact ⟨by decide, by decide, by decide⟩), ?_⟩)))
section
variable {P : Program} {w : World} {K : PySem.W.Frag} {mg : Str → Option Value} {base : Heap}
abbrev s_law_number : Stmt := top 28
theorem sc_law_number : FnScope ["bag"] ["bag"] (defScope s_law_number) := ⟨rfl, rfl, rfl, by decide +kernel, rfl, by decide +kernel, by decide +kernel⟩
theorem ok_number {f : Addr} {fd : FuncData} (F : Fun K "_law_number" "_law_number" s_law_number f fd) (T : Txt mg) (c_take : Cal P w K mg base "_law_take" 1 spTake) : FnOk P w K mg base CX0 2 f fd ["bag"] spNumber := by
  refine F.ok sc_law_number (fun vs H Q E h => ?_) (fun cdv A outer s H vs Q E hr h => ?_)
  · obtain ⟨b, n, rfl, _⟩ := h
    rfl
  · obtain ⟨b, n, rfl, hB, hn, k⟩ := h
    have hu := hu_of hr
    refine ⟨_, (pss_cons (ps_if (pt_cmpR op_gt (pe_cal c_take (hr.mono (by decide)) (pa_cons (pv 0) (pa_cons pe_int pa_nil))) pe_int (nomark _)) (pss_one (ps_ret (pe_op op_sub (pe_cal c_take (hr.mono (by decide)) (pa_cons (pv 0) (pa_cons pe_int pa_nil))) pe_int))) pss_nil)
      (pss_one (ps_ret (pe_op op_sub (pe_cal c_take (hr.mono (by decide)) (pa_cons (pv 0) (pa_cons (pe_op op_add (pe_op op_mul pe_int (pe_op op_pow pe_int pe_int)) pe_int) pa_nil))) (pe_op op_pow pe_int pe_int))))), ?_⟩
    walk_at "rd"
    refine ⟨b, n, 3, rfl, hB, by omega, by decide, by decide, fun r H1 r0 r1 B1 S1 => ?_⟩
    walk_at "rd"
    refine ite2 (fun h => ?_) (fun h => ?_)
    · walk_at "rd"
      refine ⟨b, n + 1, 9, rfl, B1, by omega, by decide, by decide, fun r' H2 a0 a1 B2 S2 => ?_⟩
      walk_at "rd"
      exact k _ _ (by omega) B2 (S1.trans S2)
    · walk_at "rd"
      refine ⟨b, n + 1, 2 * 10 ^ 25 + 1, rfl, B1, by omega, by decide, by decide, fun r' H2 a0 a1 B2 S2 => ?_⟩
      walk_at "rd"
      refine k _ _ ?_ B2 (S1.trans S2)
      show (r' - 10 ^ 25).natAbs ≤ 10 ^ 25
      omega
def abc : Str := "abcdefghijklmnopqrstuvwxyz"
theorem abc_at : ∀ j : Fin 26, ∃ c, abc.cps[j.val]? = some c ∧ 97 ≤ c ∧ c ≤ 122 := by
  intro j
  have : ∀ j : Fin 26, (abc.cps[j.val]?).isSome = true ∧ 97 ≤ (abc.cps[j.val]?).getD 0 ∧ (abc.cps[j.val]?).getD 0 ≤ 122 := by decide +kernel
  obtain ⟨h1, h2, h3⟩ := this j
  obtain ⟨c, hc⟩ := Option.isSome_iff_exists.mp h1
  rw [hc] at h2 h3
  exact ⟨c, hc, h2, h3⟩
def Lows (i : Nat) (x : Str) : Prop := x.cps.toList.length = i ∧ (x.cps.toList.all fun c => decide (97 ≤ c) && decide (c ≤ 122)) = true
theorem lows_0 : Lows 0 "" := ⟨rfl, rfl⟩
theorem lows_add {i c : Nat} {x : Str} (h : Lows i x) (h1 : 97 ≤ c) (h2 : c ≤ 122) : Lows (i + 1) (x ++ { cps := #[c] }) := by
  obtain ⟨e, a⟩ := h
  constructor
  · rw [Str.cps_append]
    simp [e]
  · rw [Str.cps_append]
    simp only [Array.toList_append, List.all_append, a, List.all_cons, List.all_nil]
    simp [h1, h2]
theorem lows_sym {i : Nat} {x : Str} (h : Lows i x) (h1 : 1 ≤ i) (h3 : i ≤ 3) : isSym x = true := by
  unfold isSym isLc
  rw [h.1, h.2, decide_eq_true h1, decide_eq_true h3]
  rfl
theorem lows_len {i : Nat} {x : Str} (h : Lows i x) : x.length = i := by
  have := h.1
  rw [Array.length_toList] at this
  exact this
abbrev s_law_symbol : Stmt := top 29
theorem sc_law_symbol : FnScope ["bag", "letters", "turn", "many", "text"] ["bag"] (defScope s_law_symbol) := ⟨rfl, rfl, rfl, by decide +kernel, rfl, by decide +kernel, by decide +kernel⟩
theorem ok_symbol {f : Addr} {fd : FuncData} (F : Fun K "_law_symbol" "_law_symbol" s_law_symbol f fd) (T : Txt mg) (c_take : Cal P w K mg base "_law_take" 1 spTake) : FnOk P w K mg base CX0 2 f fd ["bag"] spSymbol := by
  refine F.ok sc_law_symbol (fun vs H Q E h => ?_) (fun cdv A outer s H vs Q E hr h => ?_)
  · obtain ⟨b, n, rfl, _⟩ := h
    rfl
  · obtain ⟨b, n, rfl, hB, hn, k⟩ := h
    have hu := hu_of hr
    refine ⟨_, (pss_cons (ps_if (pt_cmpR op_eq (pe_cal c_take (hr.mono (by decide)) (pa_cons (pv 0) (pa_cons pe_int pa_nil))) pe_int (nomark _)) (pss_one (ps_ret (pe_op op_add_str pe_str (pe_callTy call_str_int (by rfl) T.n_str (by decide +kernel) (pa_cons (pe_cal c_take (hr.mono (by decide)) (pa_cons (pv 0) (pa_cons (pe_ix ix_list (pe_lst (pa_cons pe_int (pa_cons pe_int (pa_cons pe_int pa_nil)))) (pe_cal c_take (hr.mono (by decide)) (pa_cons (pv 0) (pa_cons pe_int pa_nil))) (fun _ _ => rfl)) pa_nil))) pa_nil))))) pss_nil)
      (pss_cons (ps_set (i := 1) sc_law_symbol.nd rfl (Or.inl rfl) pe_str)
      (pss_cons (ps_par (i := 3) (j := 4) (by rfl) sc_law_symbol.nd rfl rfl (by decide) rfl rfl (pa_cons (pe_ix ix_list (pe_lst (pa_cons pe_int (pa_cons pe_int pa_nil))) (pe_cal c_take (hr.mono (by decide)) (pa_cons (pv 0) (pa_cons pe_int pa_nil))) (fun _ _ => rfl)) (pa_cons pe_str pa_nil)) (by rfl))
      (pss_cons (ps_for PassesOwn.never rfl (pi_range1 rfl T.n_range (pa_cons (pe_op op_add pe_int (pe_cal c_take (hr.mono (by decide)) (pa_cons (pv 0) (pa_cons pe_int pa_nil)))) pa_nil)) (pg_name (i := 2) sc_law_symbol.nd rfl (Or.inl rfl))
      (pss_one (ps_set (i := 4) sc_law_symbol.nd rfl (Or.inl rfl) (pe_op op_add_str (pv 4) (pe_item_str (pv 1) (pe_cal c_take (hr.mono (by decide)) (pa_cons (pv 0) (pa_cons (pv 3) pa_nil))) (fun _ _ => rfl))))))
      (pss_one (ps_ret (pv 4))))))), ?_⟩
    walk_at "rd"
    refine ⟨b, n, 3, rfl, hB, by omega, by decide, by decide, fun r H1 r0 r1 B1 S1 => ?_⟩
    walk_at "rd"
    refine ite2 (fun h => ?_) (fun h => ?_)
    · walk_at "rd"
      refine ⟨by show 3 ≤ sizeLine; decide, fun p hp => ?_⟩
      have B1' : BagAt (upd H1 p (.lst [.int 4, .int 40, .int 1000])) b (n + 1) := B1.same fun a o e => (upd_ne (ne_of_none e hp)).trans e
      walk_at "rd"
      refine ⟨b, n + 1, 3, rfl, B1', by omega, by decide, by decide, fun r' H2 a0 a1 B2 S2 => ?_⟩
      have nb : p ≠ b := fun z => by
        obtain ⟨xs, e⟩ := B1.lst
        rw [← z, hp] at e
        cases e
      have hp2 : H2 p = some (.lst [.int 4, .int 40, .int 1000]) := S2 _ _ nb upd_same
      obtain ⟨m, hm, hm0, hm1⟩ : ∃ m : Int, atI [V.int 4, V.int 40, V.int 1000] r' = some (.int m) ∧ 0 < m ∧ m ≤ 1000 := by
        have : r' = 0 ∨ r' = 1 ∨ r' = 2 := by omega
        rcases this with rfl | rfl | rfl
        · exact ⟨4, rfl, by decide, by decide⟩
        · exact ⟨40, rfl, by decide, by decide⟩
        · exact ⟨1000, rfl, by decide, by decide⟩
      refine ⟨p, _, r', .int m, rfl, rfl, SqL.of hp2, hm, ?_⟩
      walk_at "rd"
      refine ⟨b, n + 1 + 1, m, rfl, B2, by omega, hm0, by omega, fun x H3 x0 x1 B3 S3 => ?_⟩
      have hl : x.natAbs.log2 < 1920 := by
        have h2 : x.natAbs < 2 ^ 11 := by omega
        rcases Nat.eq_zero_or_pos x.natAbs with z | z
        · rw [z]; decide
        · have := (Nat.log2_lt (Nat.pos_iff_ne_zero.mp z)).mpr h2
          omega
      have hx : x = (((⟨x.toNat, by omega⟩ : Fin 1000).val : Nat) : Int) := by
        show x = (x.toNat : Int)
        omega
      have hsym := sym_r ⟨x.toNat, by omega⟩
      rw [← hx] at hsym
      walk_at "rd"
      refine ⟨hl, ?_⟩
      have hz : ((("r" : Str) ++ ((toString x : String) : Str))).length ≤ 61 := by
        have := sym_small hsym
        rw [Array.length_toList] at this
        exact this
      have hzz : ("r" : Str).length + ((toString x : String) : Str).length ≤ sizeLine := by
        rw [← Str.length_append]
        exact Nat.le_trans hz (by decide)
      walk_at "rd"
      refine ⟨hzz, ?_⟩
      exact k _ _ hsym (B3.mono (by omega)) (Stay.trans S1 (Stay.trans (Stay.trans (Stay.of fun a o e => (upd_ne (ne_of_none e hp)).trans e) S2) S3))
    · walk_at "rd"
      refine ⟨by show 2 ≤ sizeLine; decide, fun p hp => ?_⟩
      have B1' : BagAt (upd H1 p (.lst [.int 2, .int 26])) b (n + 1) := B1.same fun a o e => (upd_ne (ne_of_none e hp)).trans e
      walk_at "rd"
      refine ⟨b, n + 1, 2, rfl, B1', by omega, by decide, by decide, fun r' H2 a0 a1 B2 S2 => ?_⟩
      have nb : p ≠ b := fun z => by
        obtain ⟨xs, e⟩ := B1.lst
        rw [← z, hp] at e
        cases e
      have hp2 : H2 p = some (.lst [.int 2, .int 26]) := S2 _ _ nb upd_same
      obtain ⟨m, hm, hm0, hm1⟩ : ∃ m : Int, atI [V.int 2, V.int 26] r' = some (.int m) ∧ 0 < m ∧ m ≤ 26 := by
        have : r' = 0 ∨ r' = 1 := by omega
        rcases this with rfl | rfl
        · exact ⟨2, rfl, by decide, by decide⟩
        · exact ⟨26, rfl, by decide, by decide⟩
      refine ⟨p, _, r', .int m, rfl, rfl, SqL.of hp2, hm, ?_⟩
      have S12 : Stay b H H2 := Stay.trans S1 (Stay.trans (Stay.of fun a o e => (upd_ne (ne_of_none e hp)).trans e) S2)
      walk_at "rd"
      refine ⟨b, n + 1 + 1, 3, rfl, B2, by omega, by decide, by decide, fun q H3 q0 q1 B3 S3 => ?_⟩
      walk_at "rd"
      refine ⟨by omega, by omega, ?_⟩
      refine for_range (lo := 0) (fun i σ H' => ∃ (o : Option V) (x : Str), σ = [some (.ref b), some (.str abc), o, some (.int m), some (.str x)] ∧ Lows i x ∧ BagAt H' b (n + 3 + i) ∧ Stay b H H') ⟨none, _, rfl, lows_0, B3, S12.trans S3⟩ ?_ ?_
      · rintro i σ H' hi ⟨o, x, rfl, hx, B4, S4⟩
        walk_at "rd"
        refine ⟨b, n + 3 + i, m, rfl, B4, by omega, hm0, by omega, fun j H5 j0 j1 B5 S5 => ?_⟩
        obtain ⟨c, hc, c1, c2⟩ := abc_at ⟨j.toNat, by omega⟩
        have hj : j < (abc.length : Int) := by
          show j < 26
          omega
        have hj2 : j < 2 ^ 63 := by omega
        have hxl : x.length + 1 ≤ sizeLine := by
          rw [lows_len hx]
          exact Nat.le_trans (m := 64) (by omega) (by decide)
        refine ⟨abc, j, c, rfl, rfl, j0, hj2, hj, hc, ?_⟩
        walk_at "rd"
        refine ⟨hxl, ?_⟩
        exact ⟨_, _, rfl, lows_add hx c1 c2, B5, S4.trans S5⟩
      · rintro σ H' ⟨o, x, rfl, hx, B4, S4⟩
        walk_at "rd"
        exact k _ _ (lows_sym hx (by omega) (by omega)) (B4.mono (by omega)) S4
theorem okPs_nil : OkPs [] := ⟨fun _ h => (by cases h), fun _ h => (by cases h)⟩
theorem okPs_snoc {ps : Ps} {x : Str} {v : Int} (h : OkPs ps) (hx : isSym x = true) (hv : v.natAbs ≤ 10 ^ 25) : OkPs (ps ++ [(x, v)]) := by
  constructor
  · intro q hq
    rcases List.mem_append.mp hq with hq | hq
    · exact h.sym q hq
    · cases List.mem_singleton.mp hq
      exact hx
  · intro q hq
    rcases List.mem_append.mp hq with hq | hq
    · exact h.big q hq
    · cases List.mem_singleton.mp hq
      exact hv
abbrev s_law_pairs : Stmt := top 30
theorem sc_law_pairs : FnScope ["bag", "many", "found", "turn", "symbol"] ["bag", "many"] (defScope s_law_pairs) := ⟨rfl, rfl, rfl, by decide +kernel, rfl, by decide +kernel, by decide +kernel⟩
theorem ok_pairs {f : Addr} {fd : FuncData} (F : Fun K "_law_pairs" "_law_pairs" s_law_pairs f fd) (T : Txt mg) (c_take : Cal P w K mg base "_law_take" 1 spTake) (c_number : Cal P w K mg base "_law_number" 2 spNumber) (c_symbol : Cal P w K mg base "_law_symbol" 2 spSymbol) : FnOk P w K mg base CX0 3 f fd ["bag", "many"] spPairs := by
  refine F.ok sc_law_pairs (fun vs H Q E h => ?_) (fun cdv A outer s H vs Q E hr h => ?_)
  · obtain ⟨b, n, many, rfl, _⟩ := h
    rfl
  · obtain ⟨b, n, many, rfl, hB, hn, hm0, hm1, k⟩ := h
    have hu := hu_of hr
    refine ⟨_, (pss_cons (ps_set (i := 2) sc_law_pairs.nd rfl (Or.inl rfl) (pe_lst pa_nil))
      (pss_cons (ps_for PassesOwn.never rfl (pi_range1 rfl T.n_range (pa_cons (pe_cal c_take (hr.mono (by decide)) (pa_cons (pv 0) (pa_cons (pv 1) pa_nil))) pa_nil)) (pg_name (i := 3) sc_law_pairs.nd rfl (Or.inl rfl))
      (pss_cons (ps_set (i := 4) sc_law_pairs.nd rfl (Or.inl rfl) (pe_cal c_symbol (hr.mono (by decide)) (pa_cons (pv 0) pa_nil)))
      (pss_cons (ps_if (PW.pt (pw_and (pt_cmpR (op_neD hr.units) (pv 2) (pe_lst pa_nil) (nomark _)) (pw_and1 (pt_cmpR op_eq (pe_cal c_take (hr.mono (by decide)) (pa_cons (pv 0) (pa_cons pe_int pa_nil))) pe_int (nomark _))))) (pss_one (ps_set (i := 4) sc_law_pairs.nd rfl (Or.inl rfl) (pe_ix ix_tup (pe_ix ix_list (pv 2) (pe_cal c_take (hr.mono (by decide)) (pa_cons (pv 0) (pa_cons (pe_callB call_len_seq (by rfl) T.n_len (by decide +kernel) (pa_cons (pv 2) pa_nil)) pa_nil))) (fun _ _ => rfl)) pe_int (fun _ _ => rfl)))) pss_nil)
      (pss_one (ps_expr (pe_bm PySem.F.plainAttrs_list PySem.F.slot_list_append PySem.F.type_list_append mt_append (pv 2) (pa_cons (pe_tup (pa_cons (pv 4) (pa_cons (pe_cal c_number (hr.mono (by decide)) (pa_cons (pv 0) pa_nil)) pa_nil))) pa_nil)))))))
      (pss_one (ps_ret (pv 2))))), ?_⟩
    refine ⟨by show 0 ≤ sizeLine; decide, fun l hl => ?_⟩
    have nb : l ≠ b := fun z => by
      obtain ⟨xs, e⟩ := hB.lst
      rw [← z, hl] at e
      cases e
    have S0 : Same H (upd H l (.lst [])) := fun a o e => (upd_ne (ne_of_none e hl)).trans e
    walk_at "rd"
    refine ⟨b, n, (many : Int), rfl, hB.same S0, by omega, by omega, by omega, fun q H3 q0 q1 B3 S3 => ?_⟩
    walk_at "rd"
    refine ⟨by omega, by omega, ?_⟩
    refine for_range (lo := 0) (fun i σ H' => ∃ (o o' : Option V) (ps : Ps), σ = [some (.ref b), some (.int (many : Int)), some (.ref l), o, o'] ∧ PairsAt H' l ps ∧ OkPs ps ∧ ps.length = i ∧ BagAt H' b (n + 1 + 14 * i) ∧ Stay b H H') ⟨none, none, [], rfl, ⟨[], S3 _ _ nb upd_same, .nil⟩, okPs_nil, rfl, B3, (Stay.of S0).trans S3⟩ ?_ ?_
    · rintro i σ H' hi ⟨o, o', ps, rfl, hP, hO, hL, B4, S4⟩
      walk_at "rd"
      refine ⟨b, n + 1 + 14 * i, rfl, B4, by omega, fun x H5 hx B5 S5 => ?_⟩
      have hP5 := hP.stay S5 B4.lst nb
      have SS5 := S4.trans S5
      walk_at "rd"
      refine ⟨by show 0 ≤ sizeLine; decide, fun z hz => ?_⟩
      have Sz : Same H5 (upd H5 z (.lst [])) := fun a o e => (upd_ne (ne_of_none e hz)).trans e
      have hPz := hP5.same Sz
      have Bz := B5.same Sz
      have SSz := SS5.trans (Stay.of Sz)
      obtain ⟨xs, hxs, hpp⟩ := hPz
      refine ⟨_, _, .lst (SqL.of hxs) (dpAll_ps hpp), .lst (SqL.of upd_same) .nil, shapedL hO.sym, rfl, ?_⟩
      rw [eqv_nil]
      refine ⟨_, rfl, ?_⟩
      refine ite2 (fun h => ?_) (fun h => ?_)
      · walk_at "rd"
        refine ⟨b, _, 4, rfl, Bz, by omega, by decide, by decide, fun c H6 c0 c1 B6 S6 => ?_⟩
        walk_at "rd"
        have SS6 := SSz.trans S6
        have hP6 : PairsAt H6 l ps := PairsAt.stay ⟨xs, hxs, hpp⟩ S6 Bz.lst nb
        refine ite2 (fun h' => ?_) (fun h' => ?_)
        · obtain ⟨xs6, hx6, hp6⟩ := hP6
          have hl6 := paired_len hp6
          have hpos : 0 < ps.length := by
            cases ps with
            | nil => cases h
            | cons _ _ => exact Nat.succ_pos _
          walk_at "rd"
          refine ⟨l, xs6, rfl, .inl (SqL.of hx6), ?_⟩
          refine ⟨b, _, (xs6.length : Int), rfl, B6, by omega, by omega, by omega, fun j H7 j0 j1 B7 S7 => ?_⟩
          have hx7 := S7 _ _ nb hx6
          obtain ⟨y, hy⟩ : ∃ y, xs6[j.toNat]? = some y := ⟨_, List.getElem?_eq_getElem (by omega)⟩
          obtain ⟨q, hq, hqq⟩ := paired_at hp6 hy
          obtain ⟨t, rfl, ht⟩ := hqq.stay S7 B6.lst
          have hjj : atI xs6 j = some (.ref t) := by
            have := atI_nat hy
            rw [Int.toNat_of_nonneg j0] at this
            exact this
          have hP7 : PairsAt H7 l ps := PairsAt.stay ⟨xs6, hx6, hp6⟩ S7 B6.lst nb
          have SS7 := SS6.trans S7
          have hq1 : isSym q.1 = true := hO.sym q (List.mem_of_getElem? hq)
          refine ⟨l, xs6, j, .ref t, rfl, rfl, SqL.of hx7, hjj, ?_⟩
          walk_at "rd"
          refine ⟨t, _, 0, _, rfl, rfl, SqT.of ht, rfl, ?_⟩
          walk_at "rd"
          refine ⟨.inl ⟨rfl, _, SqL.of (Exists.choose_spec hP7).1⟩, ?_⟩
          walk_at "rd"
          refine ⟨b, _, rfl, B7, by omega, fun v H8 hv B8 S8 => ?_⟩
          walk_at "rd"
          refine ⟨by show 2 ≤ sizeLine; decide, fun t8 ht8 => ?_⟩
          have hP8 : PairsAt H8 l ps := PairsAt.stay hP7 S8 B7.lst nb
          obtain ⟨xs8, hx8, hl8, hP9⟩ := pairs_push (x := q.1) (v := v) hP8 ht8
          have hz8 : xs8.length < sizeLine := Nat.lt_of_lt_of_le (m := 65) (by omega) (by decide)
          refine ⟨l, xs8, .ref t8, rfl, rfl, hx8, hz8, ?_⟩
          have SS8 := Stay.trans SS7 S8
          refine ⟨_, _, _, rfl, hP9, okPs_snoc hO hq1 hv, by rw [List.length_append, hL]; rfl, ((B8.upd (fun z => ?_)).upd nb.symm).mono (by omega), fun a o na e => ?_⟩
          · obtain ⟨ys, e⟩ := B8.lst
            rw [z, ht8] at e
            cases e
          · rw [upd_ne (ne_of_none e hl), upd_ne (ne_of_none (SS8 a o na e) ht8)]
            exact SS8 a o na e
        · walk_at "rd"
          refine ⟨.inl ⟨rfl, _, SqL.of (Exists.choose_spec hP6).1⟩, ?_⟩
          walk_at "rd"
          refine ⟨b, _, rfl, B6, by omega, fun v H8 hv B8 S8 => ?_⟩
          walk_at "rd"
          refine ⟨by show 2 ≤ sizeLine; decide, fun t8 ht8 => ?_⟩
          have hP8 : PairsAt H8 l ps := PairsAt.stay hP6 S8 B6.lst nb
          obtain ⟨xs8, hx8, hl8, hP9⟩ := pairs_push (x := x) (v := v) hP8 ht8
          have hz8 : xs8.length < sizeLine := Nat.lt_of_lt_of_le (m := 65) (by omega) (by decide)
          refine ⟨l, xs8, .ref t8, rfl, rfl, hx8, hz8, ?_⟩
          have SS8 := Stay.trans SS6 S8
          refine ⟨_, _, _, rfl, hP9, okPs_snoc hO hx hv, by rw [List.length_append, hL]; rfl, ((B8.upd (fun z => ?_)).upd nb.symm).mono (by omega), fun a o na e => ?_⟩
          · obtain ⟨ys, e⟩ := B8.lst
            rw [z, ht8] at e
            cases e
          · rw [upd_ne (ne_of_none e hl), upd_ne (ne_of_none (SS8 a o na e) ht8)]
            exact SS8 a o na e
      · have hPz : PairsAt (upd H5 z (.lst [])) l ps := ⟨xs, hxs, hpp⟩
        walk_at "rd"
        refine ⟨.inl ⟨rfl, _, SqL.of (Exists.choose_spec hPz).1⟩, ?_⟩
        walk_at "rd"
        refine ⟨b, _, rfl, Bz, by omega, fun v H8 hv B8 S8 => ?_⟩
        walk_at "rd"
        refine ⟨by show 2 ≤ sizeLine; decide, fun t8 ht8 => ?_⟩
        have hP8 : PairsAt H8 l ps := PairsAt.stay hPz S8 Bz.lst nb
        obtain ⟨xs8, hx8, hl8, hP9⟩ := pairs_push (x := x) (v := v) hP8 ht8
        have hz8 : xs8.length < sizeLine := Nat.lt_of_lt_of_le (m := 65) (by omega) (by decide)
        refine ⟨l, xs8, .ref t8, rfl, rfl, hx8, hz8, ?_⟩
        have SS8 := Stay.trans SSz S8
        refine ⟨_, _, _, rfl, hP9, okPs_snoc hO hx hv, by rw [List.length_append, hL]; rfl, ((B8.upd (fun z => ?_)).upd nb.symm).mono (by omega), fun a o na e => ?_⟩
        · obtain ⟨ys, e⟩ := B8.lst
          rw [z, ht8] at e
          cases e
        · rw [upd_ne (ne_of_none e hl), upd_ne (ne_of_none (SS8 a o na e) ht8)]
          exact SS8 a o na e
    · rintro σ H' ⟨o, o', ps, rfl, hP, hO, hL, B4, S4⟩
      walk_at "rd"
      exact k _ _ _ nb hl hP hO (by omega) (B4.mono (by omega)) S4
end
end Ow

set_option Elab.async false
set_option linter.all false
set_option maxRecDepth 100000
set_option maxHeartbeats 4000000
namespace Ow
open PySem PySem.Spec PyProof.Rows L2
local macro_rules | `(tactic| walk_at "rd") => `(tactic| repeat (first | (refine ⟨_, rfl, ?_⟩) | (refine ⟨_, _, rfl, rfl, ?_⟩) | (refine ⟨rfl, ?_⟩) | (refine ⟨_, _, rfl, ?_⟩) | (refine Or.inl ⟨_, rfl, ?_⟩) | (refine ⟨(by first | (show (0 : Int) < (_ : Int); decide) | exact Or.inl ⟨by decide, by decide⟩ | exact Or.inr ⟨by decide, by decide⟩ | exact ⟨by decide, by decide⟩ | exact ⟨by decide, by decide, by decide⟩), ?_⟩)))
section
variable {P : Program} {w : World} {K : PySem.W.Frag} {mg : Str → Option Value} {base : Heap}
abbrev s_law_sums : Stmt := top 31
theorem sc_law_sums : FnScope ["pairs", "found", "symbol", "number"] ["pairs"] (defScope s_law_sums) := ⟨rfl, rfl, rfl, by decide +kernel, rfl, by decide +kernel, by decide +kernel⟩
theorem ok_sums {f : Addr} {fd : FuncData} (F : Fun K "_law_sums" "_law_sums" s_law_sums f fd) (T : Txt mg) : FnOk P w K mg base CX0 1 f fd ["pairs"] spSums := by
  refine F.ok sc_law_sums (fun vs H Q E h => ?_) (fun cdv A outer s H vs Q E hr h => ?_)
  · obtain ⟨l, ps, rfl, _⟩ := h
    rfl
  · obtain ⟨l, ps, rfl, ⟨xs, hl, hp⟩, hO, hL, k⟩ := h
    have hu := hu_of hr
    refine ⟨_, (pss_cons (ps_set (i := 1) sc_law_sums.nd rfl (Or.inl rfl) pe_dnewK)
      (pss_cons (ps_for PassesOwn.never rfl (pi_list (pv 0)) (pg_tup rfl (pgs_cons (pg_name (i := 2) sc_law_sums.nd rfl (Or.inl rfl)) (pgs_cons (pg_name (i := 3) sc_law_sums.nd rfl (Or.inl rfl)) pgs_nil)))
      (pss_one (ps_dput hu (pv 1) (pv 2) (pe_op op_add (pe_dget2 hu (pv 1) (pv 2) pe_int ⟨rfl, rfl, rfl, rfl⟩) (pv 3)) rfl)))
      (pss_one (ps_ret (pv 1))))), ?_⟩
    refine fun d hd => ?_
    have S0 : Same H (upd H d (.dK [])) := same_new (fun _ _ e => e) hd
    walk_at "rd"
    refine ⟨⟨_, SqL.of (S0 _ _ hl)⟩, for_list (a := l) (xs := xs) (fun i σ H' => ∃ (o o' : Option V) (m : Ps), σ = [some (.ref l), some (.ref d), o, o'] ∧ DictAt H' d m ∧ m.length ≤ i ∧ (∀ s, co m s = co (ps.take i) s) ∧ Same H H') ⟨none, none, [], rfl, DictAt.new, Nat.le_refl _, fun _ => rfl, S0⟩ (fun i σ H' _ ⟨_, _, _, _, _, _, _, s5⟩ => SqL.of (s5 _ _ hl)) ?_ ?_⟩
    · rintro i x σ H' hi ⟨o, o', m, rfl, hD, hm, hc, S5⟩
      obtain ⟨⟨x, v⟩, hq, t, rfl, ht⟩ := paired_at hp hi
      have hx : isSym x = true := hO.sym _ (List.mem_of_getElem? hq)
      have hz : (kvI m).length < sizeLine := by
        rw [kvI_len]
        have : i < ps.length := (List.getElem?_eq_some_iff.mp hq).1
        exact Nat.lt_of_lt_of_le (m := 64) (by omega) (by decide)
      refine ⟨t, _, rfl, SqT.of (S5 _ _ ht), rfl, ?_⟩
      walk_at "rd"
      refine ⟨.inl ⟨_, .inl hD.at_⟩, ?_⟩
      walk_at "rd"
      refine ⟨_, DGet.k (k := Sum.inr x) hD.at_, ?_⟩
      rw [kvI_val m x hD.nd]
      walk_at "rd"
      refine ⟨d, _, rfl, DPut.k (k := Sum.inr x) hD.at_ hz, ?_⟩
      refine ⟨_, _, _, rfl, hD.put x _ hx, ?_, fun s => ?_, same_over S5 hd⟩
      · exact Nat.le_trans (putS_len _ _ _) (by omega)
      · rw [co_putS m x _ s hD.nd, take_snoc hq, co_snoc]
        by_cases e : s = x
        · rw [if_pos e, if_pos e, ← hc s, e]
        · rw [if_neg e, if_neg e, hc s, Int.add_zero]
    · rintro σ H' ⟨o, o', m, rfl, hD, hm, hc, S5⟩
      walk_at "rd"
      refine k _ _ _ hd hD ?_ (fun s => ?_) S5
      · rw [← paired_len hp]
        exact hm
      · rw [hc s, paired_len hp, List.take_length]
end
end Ow

set_option Elab.async false
set_option linter.all false
set_option maxRecDepth 100000
set_option maxHeartbeats 4000000
namespace Ow
open PySem PySem.Spec PyProof.Rows L2
local macro_rules | `(tactic| walk_at "rd") => `(tactic| repeat (first | (refine ⟨_, rfl, ?_⟩) | (refine ⟨_, _, rfl, rfl, ?_⟩) | (refine ⟨rfl, ?_⟩) | (refine ⟨_, _, rfl, ?_⟩) | (refine Or.inl ⟨_, rfl, ?_⟩) | (refine ⟨(by first | (show (0 : Int) < (_ : Int); decide) | exact Or.inl ⟨by decide, by decide⟩ | exact Or.inr ⟨by decide, by decide⟩ | exact ⟨by decide, by decide⟩ | exact ⟨by decide, by decide, by decide⟩), ?_⟩)))
def spPick : Sp := fun vs H Q _ => ∃ (b l : Addr) (n : Nat) (xs : List V), vs = [.ref b, .ref l] ∧ BagAt H b n ∧ n < 900000000 ∧ H l = some (.lst xs) ∧ l ≠ b ∧ 0 < xs.length ∧ xs.length ≤ 64 ∧ ∀ (i : Nat) v H', xs[i]? = some v → BagAt H' b (n + 1) → Stay b H H' → Q v H'
structure OkW (wm : Ws) : Prop where
  nam : ∀ q ∈ wm, isLc q.1.cps.toList = true ∧ (q.2 = "any" ∨ q.2 = "none" ∨ q.2 = "some")
  few : wm.length ≤ 3
def spLengths : Sp := fun vs H Q _ => ∃ (b : Addr) (n : Nat), vs = [.ref b] ∧ BagAt H b n ∧ n < 800000000 ∧ ∀ d wm H', H d = none → WAt H' d wm → OkW wm → BagAt H' b (n + 40) → Stay b H H' → Q (.ref d) H'
def abz : Str := "abcdefghijklmnopqrstuvwxyz"
theorem abz_at : ∀ j : Fin 26, ∃ c, abz.cps[j.val]? = some c ∧ 97 ≤ c ∧ c ≤ 122 := by
  intro j
  have : ∀ j : Fin 26, (abz.cps[j.val]?).isSome = true ∧ 97 ≤ (abz.cps[j.val]?).getD 0 ∧ (abz.cps[j.val]?).getD 0 ≤ 122 := by decide +kernel
  obtain ⟨h1, h2, h3⟩ := this j
  obtain ⟨c, hc⟩ := Option.isSome_iff_exists.mp h1
  rw [hc] at h2 h3
  exact ⟨c, hc, h2, h3⟩
def Lowz (i : Nat) (x : Str) : Prop := x.cps.toList.length = i ∧ (x.cps.toList.all fun c => decide (97 ≤ c) && decide (c ≤ 122)) = true
theorem lowz_0 : Lowz 0 "" := ⟨rfl, rfl⟩
theorem lowz_add {i c : Nat} {x : Str} (h : Lowz i x) (h1 : 97 ≤ c) (h2 : c ≤ 122) : Lowz (i + 1) (x ++ { cps := #[c] }) := by
  obtain ⟨e, a⟩ := h
  constructor
  · rw [Str.cps_append]
    simp [e]
  · rw [Str.cps_append]
    simp only [Array.toList_append, List.all_append, a, List.all_cons, List.all_nil]
    simp [h1, h2]
theorem lowz_sym {i : Nat} {x : Str} (h : Lowz i x) (h1 : 1 ≤ i) (h3 : i ≤ 3) : isSym x = true := by
  unfold isSym isLc
  rw [h.1, h.2, decide_eq_true h1, decide_eq_true h3]
  rfl
theorem lowz_len {i : Nat} {x : Str} (h : Lowz i x) : x.length = i := by
  have := h.1
  rw [Array.length_toList] at this
  exact this
theorem lowz_lc {i : Nat} {x : Str} (h : Lowz i x) (h1 : 1 ≤ i) (h3 : i ≤ 3) : isLc x.cps.toList = true := by
  unfold isLc
  rw [h.1, h.2, decide_eq_true h1, decide_eq_true h3]
  rfl
def spRounds : Sp := fun vs H Q _ => ∃ (b d : Addr) (n : Nat) (wm : Ws), vs = [.ref b, .ref d] ∧ BagAt H b n ∧ n < 800000000 ∧ WAt H d wm ∧ OkW wm ∧ ∀ l ts H', H l = none → l ≠ b → TripsAt H' l ts → OkD wm ts → ts.length ≤ 3 → BagAt H' b (n + 20) → Stay b H H' → Q (.ref l) H'
def spFits : Sp := fun vs H Q _ => ∃ (d l v : Addr) (wm : Ws) (ts : Ts) (m : Ps), vs = [.ref d, .ref l, .ref v] ∧ WAt H d wm ∧ TripsAt H l ts ∧ OkD wm ts ∧ DictAt H v m ∧ m.length ≤ 32 ∧ ∀ b H', (b = true ↔ Fit wm ts m) → Same H H' → Q (.bl b) H'
def spFitting : Sp := fun vs H Q _ => ∃ (b d l : Addr) (n : Nat) (wm : Ws) (ts : Ts), vs = [.ref b, .ref d, .ref l] ∧ BagAt H b n ∧ n < 800000000 ∧ WAt H d wm ∧ TripsAt H l ts ∧ l ≠ b ∧ OkD wm ts ∧
  ∀ v m H', H v = none → DictAt H' v m → m.map (·.1) = syms wm ts → Fit wm ts m → BagAt H' b (n + 60) → Stay b H H' → Q (.ref v) H'
def rsy (r : Int) : Str := ("r" : Str) ++ ((toString r : String) : Str)
theorem rsy_rc : ∀ n : Fin 24, isRc (rsy ((n.val : Nat) : Int)).cps.toList = true := by decide +kernel
theorem rsy_inj : ∀ n m : Fin 24, rsy ((n.val : Nat) : Int) = rsy ((m.val : Nat) : Int) → n = m := by decide +kernel
theorem inV_int {s : Int} : ∀ {l : List Int}, inV (.int s) (l.map V.int) = decide (s ∈ l)
  | [] => rfl
  | y :: l => by
    show (eqV (.int y) (.int s) || inV (.int s) (l.map V.int)) = _
    rw [inV_int]
    by_cases e : y = s
    · subst e
      simp [eqV]
    · have : ¬ s = y := Ne.symm e
      simp [eqV, e, this]
theorem flat_ints : ∀ l : List Int, (l.map V.int).all flatV = true
  | [] => rfl
  | _ :: l => flat_ints l
theorem rsy_nodup : ∀ {rs : List Int}, (∀ r ∈ rs, 0 ≤ r ∧ r < 24) → rs.Nodup → (rs.map rsy).Nodup
  | [], _, _ => List.nodup_nil
  | r :: rs, h, n => by
    rw [List.nodup_cons] at n
    rw [List.map_cons, List.nodup_cons]
    refine ⟨fun hm => ?_, rsy_nodup (fun q hq => h q (List.mem_cons_of_mem _ hq)) n.2⟩
    obtain ⟨q, hq, e⟩ := List.mem_map.mp hm
    have hr := h r List.mem_cons_self
    have hqq := h q (List.mem_cons_of_mem _ hq)
    have e2 := rsy_inj ⟨q.toNat, by omega⟩ ⟨r.toNat, by omega⟩ (by
      show rsy ((q.toNat : Nat) : Int) = rsy ((r.toNat : Nat) : Int)
      rw [Int.toNat_of_nonneg hqq.1, Int.toNat_of_nonneg hr.1]
      exact e)
    have e3 : q.toNat = r.toNat := congrArg Fin.val e2
    have e4 : q = r := by omega
    exact n.1 (e4 ▸ hq)
theorem okD_rounds {wm : Ws} {ts : Ts} {rs : List Int} (nd : (wm.map (·.1)).Nodup) (hO : OkW wm) (hts : ts.map (·.1) = rs.map rsy) (hrs : ∀ r ∈ rs, 0 ≤ r ∧ r < 24) (hnd : rs.Nodup)
    (hok : ∀ t ∈ ts, (t.2.1, ("some" : Str)) ∈ wm ∧ (t.2.2 = "first" ∨ t.2.2 = "any")) (hl : rs.length ≤ 3) : OkD wm ts ∧ ts.length ≤ 3 := by
  have hl2 : ts.length = rs.length := by
    have := congrArg List.length hts
    rwa [List.length_map, List.length_map] at this
  have hrc : ∀ t ∈ ts, isRc t.1.cps.toList = true := fun t ht => by
    have hm : t.1 ∈ rs.map rsy := hts ▸ List.mem_map.mpr ⟨t, ht, rfl⟩
    obtain ⟨r, hr, e⟩ := List.mem_map.mp hm
    have h := hrs r hr
    have := rsy_rc ⟨r.toNat, by omega⟩
    rw [show (((⟨r.toNat, by omega⟩ : Fin 24).val : Nat) : Int) = r from Int.toNat_of_nonneg h.1] at this
    rw [← e]
    exact this
  have hf := hO.few
  exact ⟨⟨syms_nd nd (hts ▸ rsy_nodup hrs hnd) (fun q hq => (hO.nam q hq).1) hrc, hO.nam, fun t ht => ⟨hrc t ht, hok t ht⟩, ⟨by omega, by omega⟩⟩, by omega⟩
theorem step1 {wm : Ws} {m : Ps} {i : Nat} {y w0 : Str} {val : Int} (nd : (wm.map (·.1)).Nodup) (ndm : (m.map (·.1)).Nodup) (hq : wm[i]? = some (y, w0)) (hk : m.map (·.1) = (wm.take i).map (·.1))
    (hF : ∀ q ∈ wm.take i, fitL q.2 (co m q.1) = true) (hb : ∀ q ∈ wm.take i, co m q.1 ≤ 10 ^ 25) (hv : fitL w0 val = true) (hvb : val ≤ 10 ^ 25) :
    (putS m y val).map (·.1) = (wm.take (i + 1)).map (·.1) ∧ (∀ q ∈ wm.take (i + 1), fitL q.2 (co (putS m y val) q.1) = true) ∧ ∀ q ∈ wm.take (i + 1), co (putS m y val) q.1 ≤ 10 ^ 25 := by
  have ht : wm.take (i + 1) = wm.take i ++ [(y, w0)] := by rw [List.take_succ, hq]; rfl
  have hn : ((wm.take (i + 1)).map (·.1)).Nodup := nd.sublist ((List.take_sublist _ _).map _)
  rw [ht, List.map_append, List.nodup_append] at hn
  have hy : y ∉ m.map (·.1) := fun h => hn.2.2 y (hk ▸ h) y (by simp) rfl
  have hne : ∀ q ∈ wm.take i, q.1 ≠ y := fun q h e => hn.2.2 q.1 (List.mem_map.mpr ⟨q, h, rfl⟩) y (by simp) e
  rw [ht]
  refine ⟨?_, fun q h => ?_, fun q h => ?_⟩
  · rw [putS_new m y val hy, List.map_append, List.map_append, hk]
    rfl
  · rw [co_putS m y val _ ndm]
    rcases List.mem_append.mp h with h | h
    · rw [if_neg (hne q h)]
      exact hF q h
    · rw [List.mem_singleton.mp h, if_pos rfl]
      exact hv
  · rw [co_putS m y val _ ndm]
    rcases List.mem_append.mp h with h | h
    · rw [if_neg (hne q h)]
      exact hb q h
    · rw [List.mem_singleton.mp h, if_pos rfl]
      exact hvb
theorem step2 {wm : Ws} {ts : Ts} {m : Ps} {i : Nat} {sy ow wd : Str} {val : Int} (hO : OkD wm ts) (ndm : (m.map (·.1)).Nodup) (hq : ts[i]? = some (sy, ow, wd)) (hk : m.map (·.1) = wm.map (·.1) ++ (ts.take i).map (·.1))
    (hF : ∀ t ∈ ts.take i, fitR t.2.2 (co m t.1) (co m t.2.1) = true) (hv : fitR wd val (co m ow) = true) :
    (putS m sy val).map (·.1) = wm.map (·.1) ++ (ts.take (i + 1)).map (·.1) ∧ (∀ q ∈ wm, co (putS m sy val) q.1 = co m q.1) ∧ ∀ t ∈ ts.take (i + 1), fitR t.2.2 (co (putS m sy val) t.1) (co (putS m sy val) t.2.1) = true := by
  have ht : ts.take (i + 1) = ts.take i ++ [(sy, ow, wd)] := by rw [List.take_succ, hq]; rfl
  have hn : (syms wm (ts.take (i + 1))).Nodup := (hO.sub (i + 1)).nd
  unfold syms at hn
  rw [ht, List.map_append, ← List.append_assoc, List.nodup_append] at hn
  have hy : sy ∉ m.map (·.1) := fun h => hn.2.2 sy (hk ▸ h) sy (by simp) rfl
  have hw : ∀ q ∈ wm, q.1 ≠ sy := fun q h e => hn.2.2 q.1 (List.mem_append.mpr (.inl (List.mem_map.mpr ⟨q, h, rfl⟩))) sy (by simp) e
  have hne : ∀ t ∈ ts.take i, t.1 ≠ sy := fun t h e => hn.2.2 t.1 (List.mem_append.mpr (.inr (List.mem_map.mpr ⟨t, h, rfl⟩))) sy (by simp) e
  have hco : ∀ q ∈ wm, co (putS m sy val) q.1 = co m q.1 := fun q h => by rw [co_putS m sy val _ ndm, if_neg (hw q h)]
  rw [ht]
  refine ⟨?_, hco, fun t h => ?_⟩
  · rw [putS_new m sy val hy, List.map_append, List.map_append, hk, List.append_assoc]
    rfl
  · rcases List.mem_append.mp h with h | h
    · have h2 := (hO.rnd t (List.take_subset _ _ h)).2.1
      rw [hco _ h2, co_putS m sy val _ ndm, if_neg (hne t h)]
      exact hF t h
    · have h2 := (hO.rnd _ (List.mem_of_getElem? hq)).2.1
      rw [List.mem_singleton.mp h]
      show fitR wd (co (putS m sy val) sy) (co (putS m sy val) ow) = true
      rw [hco _ h2, co_putS m sy val _ ndm, if_pos rfl]
      exact hv
theorem stay_unlock {b a : Addr} {H H' : Hp} {o : Obj} {u : HO} (hb : H a = some u) (s : Stay b (upd H a (.frz o u)) H') : Stay b H (upd H' a u) := fun c x n e => by
  by_cases z : c = a
  · subst z
    rw [upd_same, ← hb, e]
  · rw [upd_ne z]
    exact s c x n ((upd_ne z).trans e)
section
variable {P : Program} {w : World} {K : PySem.W.Frag} {mg : Str → Option Value} {base : Heap}
abbrev s_law_of : Stmt := top 27
theorem sc_law_of : FnScope ["bag", "some"] ["bag", "some"] (defScope s_law_of) := ⟨rfl, rfl, rfl, by decide +kernel, rfl, by decide +kernel, by decide +kernel⟩
theorem ok_pick {f : Addr} {fd : FuncData} (F : Fun K "_law_of" "_law_of" s_law_of f fd) (T : Txt mg) (c_take : Cal P w K mg base "_law_take" 1 spTake) : FnOk P w K mg base CX0 2 f fd ["bag", "some"] spPick := by
  refine F.ok sc_law_of (fun vs H Q E h => ?_) (fun cdv A outer s H vs Q E hr h => ?_)
  · obtain ⟨b, l, n, xs, rfl, _⟩ := h
    rfl
  · obtain ⟨b, l, n, xs, rfl, hB, hn, hl, lb, h0, h64, k⟩ := h
    have hu := hu_of hr
    refine ⟨_, (pss_one (ps_ret (pe_ix ix_list (pv 1) (pe_cal c_take (hr.mono (by decide)) (pa_cons (pv 0) (pa_cons (pe_callB call_len_seq (by rfl) T.n_len (by decide +kernel) (pa_cons (pv 1) pa_nil)) pa_nil))) (fun _ _ => rfl)))), ?_⟩
    walk_at "rd"
    refine ⟨l, _, rfl, .inl (SqL.of hl), ?_⟩
    refine ⟨b, n, _, rfl, hB, by omega, by omega, by omega, fun r H1 r0 r1 B1 S1 => ?_⟩
    obtain ⟨i, rfl⟩ := Int.eq_ofNat_of_zero_le r0
    have hi : i < xs.length := by omega
    refine ⟨l, xs, _, xs[i], rfl, rfl, SqL.of (S1 _ _ lb hl), atI_nat (List.getElem?_eq_getElem hi), ?_⟩
    exact k i _ _ (List.getElem?_eq_getElem hi) B1 S1
abbrev s_law_lengths : Stmt := top 32
theorem sc_law_lengths : FnScope ["bag", "found", "turn", "letters", "text", "sign"] ["bag"] (defScope s_law_lengths) := ⟨rfl, rfl, rfl, by decide +kernel, rfl, by decide +kernel, by decide +kernel⟩
theorem ok_lengths {f : Addr} {fd : FuncData} (F : Fun K "_law_lengths" "_law_lengths" s_law_lengths f fd) (T : Txt mg) (c_take : Cal P w K mg base "_law_take" 1 spTake) (c_pick : Cal P w K mg base "_law_of" 2 spPick) : FnOk P w K mg base CX0 3 f fd ["bag"] spLengths := by
  refine F.ok sc_law_lengths (fun vs H Q E h => ?_) (fun cdv A outer s H vs Q E hr h => ?_)
  · obtain ⟨b, n, rfl, _⟩ := h
    rfl
  · obtain ⟨b, n, rfl, hB, hn, k⟩ := h
    have hu := hu_of hr
    refine ⟨_, (pss_cons (ps_set (i := 1) sc_law_lengths.nd rfl (Or.inl rfl) pe_dnewK)
      (pss_cons (ps_for PassesOwn.never rfl (pi_range1 rfl T.n_range (pa_cons (pe_cal c_take (hr.mono (by decide)) (pa_cons (pv 0) (pa_cons pe_int pa_nil))) pa_nil)) (pg_name (i := 2) sc_law_lengths.nd rfl (Or.inl rfl))
      (pss_cons (ps_set (i := 3) sc_law_lengths.nd rfl (Or.inl rfl) pe_str)
      (pss_cons (ps_set (i := 4) sc_law_lengths.nd rfl (Or.inl rfl) pe_str)
      (pss_cons (ps_for PassesOwn.never rfl (pi_range1 rfl T.n_range (pa_cons (pe_op op_add pe_int (pe_cal c_take (hr.mono (by decide)) (pa_cons (pv 0) (pa_cons pe_int pa_nil)))) pa_nil)) (pg_name (i := 5) sc_law_lengths.nd rfl (Or.inl rfl))
      (pss_one (ps_set (i := 4) sc_law_lengths.nd rfl (Or.inl rfl) (pe_op op_add_str (pv 4) (pe_item_str (pv 3) (pe_cal c_take (hr.mono (by decide)) (pa_cons (pv 0) (pa_cons (pe_ix ix_list (pe_lst (pa_cons pe_int (pa_cons pe_int pa_nil))) (pe_cal c_take (hr.mono (by decide)) (pa_cons (pv 0) (pa_cons pe_int pa_nil))) (fun _ _ => rfl)) pa_nil))) (fun _ _ => rfl))))))
      (pss_one (ps_dput hu (pv 1) (pv 4) (pe_cal c_pick (hr.mono (by decide)) (pa_cons (pv 0) (pa_cons (pe_lst (pa_cons pe_str (pa_cons pe_str (pa_cons pe_str (pa_cons pe_str pa_nil))))) pa_nil))) rfl))))))
      (pss_one (ps_ret (pv 1))))), ?_⟩
    refine fun d hd => ?_
    have db : d ≠ b := fun z => by
      obtain ⟨ys, e⟩ := hB.lst
      rw [← z, hd] at e
      cases e
    have S0 : Same H (upd H d (.dK [])) := same_new (fun _ _ e => e) hd
    walk_at "rd"
    refine ⟨b, n, 4, rfl, hB.same S0, by omega, by decide, by decide, fun r H1 r0 r1 B1 S1 => ?_⟩
    walk_at "rd"
    refine ⟨by omega, by omega, ?_⟩
    refine for_range (lo := 0) (fun i σ H' => ∃ (o2 o3 o4 o5 : Option V) (wm : Ws), σ = [some (.ref b), some (.ref d), o2, o3, o4, o5] ∧ WAt H' d wm ∧ (∀ q ∈ wm, isLc q.1.cps.toList = true ∧ (q.2 = "any" ∨ q.2 = "none" ∨ q.2 = "some")) ∧ wm.length ≤ i ∧ BagAt H' b (n + 1 + 10 * i) ∧ Stay b H H') ⟨none, none, none, none, [], rfl, WAt.new.stay S1 (hB.same S0).lst, fun _ h => (by cases h), Nat.le_refl _, B1, (Stay.of S0).trans S1⟩ ?_ ?_
    · rintro i σ H' hi ⟨o2, o3, o4, o5, wm, rfl, hW, hN, hl, B4, S4⟩
      walk_at "rd"
      refine ⟨b, n + 1 + 10 * i, 3, rfl, B4, by omega, by decide, by decide, fun q H5 q0 q1 B5 S5 => ?_⟩
      walk_at "rd"
      refine ⟨by omega, by omega, ?_⟩
      refine for_range (lo := 0) (fun j σ H' => ∃ (o5 : Option V) (x : Str), σ = [some (.ref b), some (.ref d), some (.int (0 + (i : Nat))), some (.str abz), some (.str x), o5] ∧ Lowz j x ∧ WAt H' d wm ∧ BagAt H' b (n + 2 + 10 * i + 2 * j) ∧ Stay b H H') ⟨_, _, rfl, lowz_0, hW.stay S5 B4.lst, B5.mono (by omega), S4.trans S5⟩ ?_ ?_
      · rintro j σ H6 hj ⟨o5, x, rfl, hx, hW6, B6, S6⟩
        walk_at "rd"
        refine ⟨by show 2 ≤ sizeLine; decide, fun p hp => ?_⟩
        have Sp : Same H6 (upd H6 p (.lst [.int 2, .int 26])) := same_new (fun _ _ e => e) hp
        walk_at "rd"
        refine ⟨b, _, 2, rfl, B6.same Sp, by omega, by decide, by decide, fun r' H7 a0 a1 B7 S7 => ?_⟩
        have pb : p ≠ b := fun z => by
          obtain ⟨xs, e⟩ := B6.lst
          rw [← z, hp] at e
          cases e
        have hp2 : H7 p = some (.lst [.int 2, .int 26]) := S7 _ _ pb upd_same
        obtain ⟨m, hm, hm0, hm1⟩ : ∃ m : Int, atI [V.int 2, V.int 26] r' = some (.int m) ∧ 0 < m ∧ m ≤ 26 := by
          have : r' = 0 ∨ r' = 1 := by omega
          rcases this with rfl | rfl
          · exact ⟨2, rfl, by decide, by decide⟩
          · exact ⟨26, rfl, by decide, by decide⟩
        have S67 : Stay b H6 H7 := (Stay.of Sp).trans S7
        refine ⟨p, _, r', .int m, rfl, rfl, SqL.of hp2, hm, ?_⟩
        walk_at "rd"
        refine ⟨b, _, m, rfl, B7, by omega, hm0, by omega, fun c H8 c0 c1 B8 S8 => ?_⟩
        obtain ⟨cc, hc, cc1, cc2⟩ := abz_at ⟨c.toNat, by omega⟩
        have hj1 : c < (abz.length : Int) := by
          show c < 26
          omega
        have hj2 : c < 2 ^ 63 := by omega
        have hxl : x.length + 1 ≤ sizeLine := by
          rw [lowz_len hx]
          exact Nat.le_trans (m := 64) (by omega) (by decide)
        refine ⟨abz, c, cc, rfl, rfl, c0, hj2, hj1, hc, ?_⟩
        walk_at "rd"
        refine ⟨hxl, ?_⟩
        exact ⟨_, _, rfl, lowz_add hx cc1 cc2, (hW6.stay S67 B6.lst).stay S8 B7.lst, B8.mono (by omega), (S6.trans S67).trans S8⟩
      · rintro σ H6 ⟨o5, x, rfl, hx, hW6, B6, S6⟩
        have hxc := lowz_lc hx (by omega) (by omega)
        walk_at "rd"
        refine ⟨by show 4 ≤ sizeLine; decide, fun p hp => ?_⟩
        have Sp : Same H6 (upd H6 p (.lst [.str "any", .str "none", .str "some", .str "some"])) := same_new (fun _ _ e => e) hp
        have pb : p ≠ b := fun z => by
          obtain ⟨xs, e⟩ := B6.lst
          rw [← z, hp] at e
          cases e
        refine ⟨b, p, _, _, rfl, B6.same Sp, by omega, upd_same, pb, by decide, by decide, fun jj v H7 hv B7 S7 => ?_⟩
        obtain ⟨y, hy, rfl⟩ : ∃ y : Str, (y = "any" ∨ y = "none" ∨ y = "some") ∧ v = .str y := by
          have hv := List.mem_of_getElem? hv
          simp only [List.mem_cons, List.not_mem_nil, or_false] at hv
          rcases hv with e | e | e | e
          · exact ⟨_, .inl rfl, e⟩
          · exact ⟨_, .inr (.inl rfl), e⟩
          · exact ⟨_, .inr (.inr rfl), e⟩
          · exact ⟨_, .inr (.inr rfl), e⟩
        have S67 : Stay b H6 H7 := (Stay.of Sp).trans S7
        have hW7 := hW6.stay S67 B6.lst
        walk_at "rd"
        have hz : (kvT wm).length < sizeLine := by
          rw [kvT_len]
          exact Nat.lt_of_lt_of_le (m := 64) (by omega) (by decide)
        refine ⟨d, _, rfl, DPut.k (k := Sum.inr x) hW7.at_ hz, ?_⟩
        refine ⟨_, _, _, _, _, rfl, hW7.put x y, fun q hq => ?_, Nat.le_trans (putW_len _ _ _) (by omega), (B7.upd db.symm).mono (by omega), ?_⟩
        · rcases putW_mem hq with hq | rfl
          · exact hN q hq
          · exact ⟨hxc, hy⟩
        · intro a o na e
          rw [upd_ne (ne_of_none e hd)]
          exact S6.trans S67 a o na e
    · rintro σ H' ⟨o2, o3, o4, o5, wm, rfl, hW, hN, hl, B4, S4⟩
      walk_at "rd"
      exact k d wm H' hd hW ⟨hN, by omega⟩ (B4.mono (by omega)) S4
abbrev s_law_rounds : Stmt := top 33
theorem sc_law_rounds : FnScope ["bag", "lengths", "owners", "turn", "found", "rows", "row", "text"] ["bag", "lengths"] (defScope s_law_rounds) := ⟨rfl, rfl, rfl, by decide +kernel, rfl, by decide +kernel, by decide +kernel⟩
theorem ok_rounds {f : Addr} {fd : FuncData} (F : Fun K "_law_rounds" "_law_rounds" s_law_rounds f fd) (T : Txt mg) (c_take : Cal P w K mg base "_law_take" 1 spTake) (c_pick : Cal P w K mg base "_law_of" 2 spPick) : FnOk P w K mg base CX0 3 f fd ["bag", "lengths"] spRounds := by
  refine F.ok sc_law_rounds (fun vs H Q E h => ?_) (fun cdv A outer s H vs Q E hr h => ?_)
  · obtain ⟨b, d, n, wm, rfl, _⟩ := h
    rfl
  · obtain ⟨b, d, n, wm, rfl, hB, hn, hW, hO, k⟩ := h
    have hu := hu_of hr
    refine ⟨_, (pss_cons (ps_setLc (i := 2) (own := [("text", 7)]) (g := gName 7) (by rfl) sc_law_rounds.nd rfl rfl (sw_true rfl rfl rfl (by decide +kernel)) (pi_list (pe_callB (call_sortedD rfl) (by rfl) T.n_sorted (by decide +kernel) (pa_cons (pv 1) pa_nil))) (blkOk_by (own := [("text", 7)]) (N := ["bag", "lengths", "owners", "turn", "found", "rows", "row", "text"]) (sc := defScope s_law_rounds) (by decide +kernel)) (fun _ _ _ _ _ => (pg_name (i := 7) sc_law_rounds.nd rfl (Or.inl rfl))) (fun _ _ _ _ _ => (pts_one (pt_cmpR op_eq (pe_dget hu (pv 1) (pv 7) (fun _ _ => rfl)) pe_str (nomark _)))) (fun _ _ _ _ _ => (pv 7)))
      (pss_cons (ps_par (i := 4) (j := 5) (by rfl) sc_law_rounds.nd rfl rfl (by decide) rfl rfl (pa_cons (pe_lst pa_nil) (pa_cons (pe_lst pa_nil) pa_nil)) (by rfl))
      (pss_cons (ps_for PassesOwn.never rfl (pi_range1 rfl T.n_range (pa_cons (pe_ifExp (pt_cmpR (op_neD hr.units) (pv 2) (pe_lst pa_nil) (nomark _)) (pe_cal c_take (hr.mono (by decide)) (pa_cons (pv 0) (pa_cons pe_int pa_nil))) pe_int) pa_nil)) (pg_name (i := 3) sc_law_rounds.nd rfl (Or.inl rfl))
      (pss_cons (ps_set (i := 6) sc_law_rounds.nd rfl (Or.inl rfl) (pe_cal c_take (hr.mono (by decide)) (pa_cons (pv 0) (pa_cons pe_int pa_nil))))
      (pss_one (ps_if (pt_cmpR op_notIn_seq (pv 6) (pv 5) rfl) (pss_cons (ps_expr (pe_bm PySem.F.plainAttrs_list PySem.F.slot_list_append PySem.F.type_list_append mt_append (pv 5) (pa_cons (pv 6) pa_nil)))
      (pss_one (ps_expr (pe_bm PySem.F.plainAttrs_list PySem.F.slot_list_append PySem.F.type_list_append mt_append (pv 4) (pa_cons (pe_tup (pa_cons (pe_op op_add_str pe_str (pe_callTy call_str_int (by rfl) T.n_str (by decide +kernel) (pa_cons (pv 6) pa_nil))) (pa_cons (pe_cal c_pick (hr.mono (by decide)) (pa_cons (pv 0) (pa_cons (pv 2) pa_nil))) (pa_cons (pe_cal c_pick (hr.mono (by decide)) (pa_cons (pv 0) (pa_cons (pe_lst (pa_cons pe_str (pa_cons pe_str (pa_cons pe_str pa_nil)))) pa_nil))) pa_nil)))) pa_nil))))) pss_nil))))
      (pss_one (ps_ret (pv 4)))))), ?_⟩
    walk_at "rd"
    have hb0 : ∀ {z : Addr}, H z = none → z ≠ b := fun hz q => by
      obtain ⟨xs, e⟩ := hB.lst
      rw [← q, hz] at e
      cases e
    refine ⟨d, kvT wm, wm.map (·.1), rfl, .inl hW.at_, kvT_keys wm, by rw [List.length_map]; have := hO.few; omega, fun ys p hperm hsort hp => ?_⟩
    have Sp : Same H (upd H p (.lst (ys.map V.str))) := same_new (fun _ _ e => e) hp
    have hyl : ys.length ≤ 3 := by
      rw [hperm.length_eq, List.length_map]
      exact hO.few
    refine ⟨p, rfl, ⟨_, SqL.of upd_same⟩, fun D hD => lc_list (a := p) (xs := ys.map V.str) (fun i H' => ∃ os : List Str, H' D = some (.lst (os.map V.str)) ∧ os.length ≤ i ∧ (∀ o ∈ os, (o, ("some" : Str)) ∈ wm) ∧ Same (upd H p (.lst (ys.map V.str))) H') ⟨[], upd_same, Nat.le_refl _, fun _ h => (by cases h), same_new (fun _ _ e => e) hD⟩ (fun i H' _ ⟨_, _, _, _, s5⟩ => SqL.of (s5 _ _ upd_same)) ?_ ?_⟩
    · rintro i v H' hi ⟨os, ho, hol, hom, S5⟩
      obtain ⟨y, hy, rfl⟩ := str_at hi
      have hi3 : i < 3 := by
        have := (List.getElem?_eq_some_iff.mp hy).1
        omega
      have hym : y ∈ wm.map (·.1) := hperm.mem_iff.mp (List.mem_of_getElem? hy)
      refine ⟨rfl, ?_⟩
      walk_at "rd"
      refine ⟨d, _, rfl, wget (.inl (S5 _ _ (Sp _ _ hW.at_))) hym, ?_⟩
      walk_at "rd"
      refine ite2 (fun h => ?_) (fun h => ?_)
      · have h : wo wm y = "some" := by simpa using h
        walk_at "rd"
        refine ⟨_, ho, ?_, os ++ [y], by rw [upd_same, List.map_append]; rfl, by rw [List.length_append]; simp only [List.length_cons, List.length_nil]; omega, fun o hoo => ?_, same_over S5 hD⟩
        · rw [List.length_map]
          exact Nat.lt_of_lt_of_le (m := 64) (by omega) (by decide)
        · rcases List.mem_append.mp hoo with hoo | hoo
          · exact hom o hoo
          · rw [List.mem_singleton.mp hoo, ← h]
            exact wo_mem hym
      · exact ⟨os, ho, by omega, hom, S5⟩
    · rintro H1 ⟨os, ho, hol, hom, S5⟩
      rw [List.length_map] at hol
      have S1 := same_trans Sp S5
      have hDn : H D = none := by
        cases e : H D with
        | none => rfl
        | some o => rw [Sp _ _ e] at hD; cases hD
      have Db := hb0 hDn
      have hsy : ∀ o ∈ os, isSym o = true := fun o hoo => by
        unfold isSym
        rw [(hO.nam _ (hom o hoo)).1]
        rfl
      walk_at "rd"
      refine ⟨by show 0 ≤ sizeLine; decide, fun lf hlf => ?_⟩
      walk_at "rd"
      refine ⟨by show 0 ≤ sizeLine; decide, fun lr hlr => ?_⟩
      walk_at "rd"
      refine ⟨by show 0 ≤ sizeLine; decide, fun z hz => ?_⟩
      have Df : D ≠ lf := fun q => by rw [← q, ho] at hlf; cases hlf
      have lfr : lf ≠ lr := fun q => by rw [← q, upd_same] at hlr; cases hlr
      have Dr : D ≠ lr := fun q => by rw [← q, upd_ne Df, ho] at hlr; cases hlr
      have S2 := same_new (o := .lst []) S1 hlf
      have S3 := same_new (o := .lst []) S2 hlr
      have S4 := same_new (o := .lst []) S3 hz
      have hlf0 : H lf = none := by
        cases e : H lf with
        | none => rfl
        | some o => rw [S1 _ _ e] at hlf; cases hlf
      have hlr0 : H lr = none := by
        cases e : H lr with
        | none => rfl
        | some o => rw [S2 _ _ e] at hlr; cases hlr
      have fb := hb0 hlf0
      have rb := hb0 hlr0
      have zD : D ≠ z := fun q => by rw [← q, upd_ne Dr, upd_ne Df, ho] at hz; cases hz
      have zf : lf ≠ z := fun q => by rw [← q, upd_ne lfr, upd_same] at hz; cases hz
      have zr : lr ≠ z := fun q => by rw [← q, upd_same] at hz; cases hz
      have hDz : upd (upd (upd H1 lf (.lst [])) lr (.lst [])) z (.lst []) D = some (.lst (os.map V.str)) := by rw [upd_ne zD, upd_ne Dr, upd_ne Df, ho]
      have hfz : upd (upd (upd H1 lf (.lst [])) lr (.lst [])) z (.lst []) lf = some (.lst []) := by rw [upd_ne zf, upd_ne lfr, upd_same]
      have hrz : upd (upd (upd H1 lf (.lst [])) lr (.lst [])) z (.lst []) lr = some (.lst []) := by rw [upd_ne zr, upd_same]
      have Bz := hB.same S4
      have hzz : upd (upd (upd H1 lf (.lst [])) lr (.lst [])) z (.lst []) z = some (.lst (([] : List Str).map V.str)) := upd_same
      generalize upd (upd (upd H1 lf (.lst [])) lr (.lst [])) z (.lst []) = Hz at hDz hfz hrz Bz S4 hzz
      refine ⟨.list (datS os), .list (datS []), .lst (SqL.of hDz) (dpAll_s os), .lst (SqL.of ?_) (dpAll_s []), shapedS hsy, shapedS fun _ h => (by cases h), _, rfl, ?_⟩
      · exact hzz
      rw [eqvLS]
      refine ite2 (fun h => ?_) (fun h => ?_)
      · have hpos : 0 < os.length := by
          cases os with
          | nil => simp at h
          | cons _ _ => exact Nat.succ_pos _
        walk_at "rd"
        refine ⟨b, n, 4, rfl, Bz, by omega, by decide, by decide, fun r H2 r0 r1 B2 Sr => ?_⟩
        walk_at "rd"
        refine ⟨by omega, by omega, ?_⟩
        refine for_range (lo := 0) (fun i σ H' => ∃ (o3 o6 o7 : Option V) (rs : List Int) (ts : Ts), σ = [some (.ref b), some (.ref d), some (.ref D), o3, some (.ref lf), some (.ref lr), o6, o7] ∧ TripsAt H' lf ts ∧ H' lr = some (.lst (rs.map V.int)) ∧ H' D = some (.lst (os.map V.str)) ∧ ts.map (·.1) = rs.map rsy ∧ (∀ r ∈ rs, 0 ≤ r ∧ r < 24) ∧ rs.Nodup ∧ (∀ t ∈ ts, (t.2.1, ("some" : Str)) ∈ wm ∧ (t.2.2 = "first" ∨ t.2.2 = "any")) ∧ rs.length ≤ i ∧ BagAt H' b (n + 1 + 3 * i) ∧ Stay b H H') ⟨none, none, none, [], [], rfl, ⟨[], Sr _ _ fb hfz, .nil⟩, Sr _ _ rb hrz, Sr _ _ Db hDz, rfl, fun _ h => (by cases h), List.nodup_nil, fun _ h => (by cases h), Nat.le_refl _, B2, (Stay.of S4).trans Sr⟩ ?_ ?_
        · rintro i σ H3 hi ⟨o3, o6, o7, rs, ts, rfl, hT, hR, hDD, hts, hrs, hnd, hok, hl, B3, SS⟩
          walk_at "rd"
          refine ⟨b, _, 24, rfl, B3, by omega, by decide, by decide, fun q H4 q0 q1 B4 S5 => ?_⟩
          have hT4 := hT.stay S5 B3.lst fb
          have hR4 := S5 _ _ rb hR
          have hD4 := S5 _ _ Db hDD
          have SS4 := SS.trans S5
          walk_at "rd"
          refine ⟨lr, _, rfl, .inl (SqL.of hR4), rfl, flat_ints _, ?_⟩
          rw [inV_int]
          walk_at "rd"
          refine ite2 (fun h => ?_) (fun h => ?_)
          · have hnew : q ∉ rs := by simpa using h
            walk_at "rd"
            refine ⟨.inl ⟨rfl, _, SqL.of hR4⟩, ?_⟩
            walk_at "rd"
            have hrl : rs.length < 3 := by omega
            refine ⟨lr, _, .int q, rfl, rfl, hR4, by rw [List.length_map]; exact Nat.lt_of_lt_of_le (m := 64) (by omega) (by decide), ?_⟩
            have hRA : upd H4 lr (.lst (rs.map V.int ++ [.int q])) lr = some (.lst ((rs ++ [q]).map V.int)) := by rw [upd_same, List.map_append]; rfl
            have hDA : upd H4 lr (.lst (rs.map V.int ++ [.int q])) D = some (.lst (os.map V.str)) := (upd_ne Dr).trans hD4
            have hTA : TripsAt (upd H4 lr (.lst (rs.map V.int ++ [.int q]))) lf ts := hT4.stay (b := lr) (fun a u na e => (upd_ne na).trans e) ⟨_, hR4⟩ lfr
            have BA := B4.upd (o := .lst (rs.map V.int ++ [.int q])) rb.symm
            have SSA : Stay b H (upd H4 lr (.lst (rs.map V.int ++ [.int q]))) := fun a u na e => (upd_ne (ne_of_none e hlr0)).trans (SS4 a u na e)
            generalize upd H4 lr (.lst (rs.map V.int ++ [.int q])) = HA at hRA hDA hTA BA SSA
            walk_at "rd"
            refine ⟨.inl ⟨rfl, _, SqL.of (Exists.choose_spec hTA).1⟩, ?_⟩
            walk_at "rd"
            have hq24 : q = (((⟨q.toNat, by omega⟩ : Fin 24).val : Nat) : Int) := by
              show q = (q.toNat : Int)
              omega
            have hrc := rsy_rc ⟨q.toNat, by omega⟩
            rw [← hq24] at hrc
            have hlg : q.natAbs.log2 < 1920 := by
              have h2 : q.natAbs < 2 ^ 11 := by omega
              rcases Nat.eq_zero_or_pos q.natAbs with z | z
              · rw [z]; decide
              · have := (Nat.log2_lt (Nat.pos_iff_ne_zero.mp z)).mpr h2
                omega
            refine ⟨hlg, ?_⟩
            have hzz : ("r" : Str).length + ((toString q : String) : Str).length ≤ sizeLine := by
              rw [← Str.length_append]
              exact rc_len hrc
            walk_at "rd"
            refine ⟨hzz, ?_⟩
            walk_at "rd"
            refine ⟨b, D, _, _, rfl, BA, by omega, hDA, Db, by rw [List.length_map]; exact hpos, by rw [List.length_map]; omega, fun jj vv H5 hv B5 S5' => ?_⟩
            obtain ⟨o, hoo, rfl⟩ : ∃ o, o ∈ os ∧ vv = .str o := by
              have hv := List.mem_of_getElem? hv
              obtain ⟨o, h1, h2⟩ := List.mem_map.mp hv
              exact ⟨o, h1, h2.symm⟩
            walk_at "rd"
            refine ⟨by show 3 ≤ sizeLine; decide, fun pw hpw => ?_⟩
            have pwb : pw ≠ b := fun z => by
              obtain ⟨xs, e⟩ := B5.lst
              rw [← z, hpw] at e
              cases e
            have Spw := same_new (o := .lst [.str "first", .str "any", .str "any"]) (fun a u (e : H5 a = some u) => e) hpw
            refine ⟨b, pw, _, _, rfl, B5.same Spw, by omega, upd_same, pwb, by decide, by decide, fun j2 v2 H6 hv2 B6 S6 => ?_⟩
            obtain ⟨y, hy, rfl⟩ : ∃ y : Str, (y = "first" ∨ y = "any") ∧ v2 = .str y := by
              have hv := List.mem_of_getElem? hv2
              simp only [List.mem_cons, List.not_mem_nil, or_false] at hv
              rcases hv with e | e | e
              · exact ⟨_, .inl rfl, e⟩
              · exact ⟨_, .inr rfl, e⟩
              · exact ⟨_, .inr rfl, e⟩
            have SA6 : Stay b HA H6 := (S5'.trans (Stay.of Spw)).trans S6
            have hT6 := hTA.stay SA6 BA.lst fb
            walk_at "rd"
            refine ⟨by show 3 ≤ sizeLine; decide, fun t ht => ?_⟩
            have tb : t ≠ b := fun z => by
              obtain ⟨xs, e⟩ := B6.lst
              rw [← z, ht] at e
              cases e
            have SS6 := (SSA.trans SA6).new (o := .tup [.str (rsy q), .str o, .str y]) ht
            obtain ⟨acc, g1, g2, g3⟩ := trips_push (a := rsy q) (b := o) (c := y) hT6 ht
            refine ⟨lf, acc, .ref t, rfl, rfl, g1, ?_, ?_⟩
            · have h1 := congrArg List.length hts
              rw [List.length_map, List.length_map] at h1
              exact Nat.lt_of_lt_of_le (m := 64) (by omega) (by decide)
            have rt' : lr ≠ t := fun z => by rw [← z, SA6 _ _ rb hRA] at ht; cases ht
            have Dt : D ≠ t := fun z => by rw [← z, SA6 _ _ Db hDA] at ht; cases ht
            refine ⟨_, _, _, rs ++ [q], ts ++ [(rsy q, o, y)], rfl, g3, ?_, ?_, ?_, ?_, ?_, ?_, ?_, ((B6.upd tb.symm).upd fb.symm).mono (by omega), ?_⟩
            · rw [upd_ne lfr.symm, upd_ne rt']
              exact SA6 _ _ rb hRA
            · rw [upd_ne Df, upd_ne Dt]
              exact SA6 _ _ Db hDA
            · rw [List.map_append, List.map_append, hts]
              rfl
            · intro r hr
              rcases List.mem_append.mp hr with hr | hr
              · exact hrs r hr
              · rw [List.mem_singleton.mp hr]
                exact ⟨q0, q1⟩
            · rw [List.nodup_append]
              refine ⟨hnd, by simp, fun a ha c hc e => ?_⟩
              rw [List.mem_singleton.mp hc] at e
              exact hnew (e ▸ ha)
            · intro t' ht'
              rcases List.mem_append.mp ht' with ht' | ht'
              · exact hok t' ht'
              · rw [List.mem_singleton.mp ht']
                exact ⟨hom o hoo, hy⟩
            · rw [List.length_append]
              simp only [List.length_cons, List.length_nil]
              omega
            · intro a u na e
              rw [upd_ne (ne_of_none e hlf0)]
              exact SS6 a u na e
          · exact ⟨_, _, _, rs, ts, rfl, hT4, hR4, hD4, hts, hrs, hnd, hok, by omega, B4.mono (by omega), SS4⟩
        · rintro σ H3 ⟨o3, o6, o7, rs, ts, rfl, hT, hR, hDD, hts, hrs, hnd, hok, hl, B3, SS⟩
          walk_at "rd"
          obtain ⟨hOD, hl3⟩ := okD_rounds hW.nd hO hts hrs hnd hok (by omega)
          exact k lf ts H3 hlf0 fb hT hOD hl3 (B3.mono (by omega)) SS
      · walk_at "rd"
        refine ⟨by omega, by omega, ?_⟩
        refine for_range (lo := 0) (fun i σ H' => ∃ (o3 o6 o7 : Option V) (rs : List Int) (ts : Ts), σ = [some (.ref b), some (.ref d), some (.ref D), o3, some (.ref lf), some (.ref lr), o6, o7] ∧ TripsAt H' lf ts ∧ H' lr = some (.lst (rs.map V.int)) ∧ H' D = some (.lst (os.map V.str)) ∧ ts.map (·.1) = rs.map rsy ∧ (∀ r ∈ rs, 0 ≤ r ∧ r < 24) ∧ rs.Nodup ∧ (∀ t ∈ ts, (t.2.1, ("some" : Str)) ∈ wm ∧ (t.2.2 = "first" ∨ t.2.2 = "any")) ∧ rs.length ≤ i ∧ BagAt H' b (n + 1 + 3 * i) ∧ Stay b H H') ⟨none, none, none, [], [], rfl, ⟨[], hfz, .nil⟩, hrz, hDz, rfl, fun _ h => (by cases h), List.nodup_nil, fun _ h => (by cases h), Nat.le_refl _, Bz.mono (by omega), Stay.of S4⟩ ?_ ?_
        · rintro i σ H3 hi _
          exact absurd hi (by simp)
        · rintro σ H3 ⟨o3, o6, o7, rs, ts, rfl, hT, hR, hDD, hts, hrs, hnd, hok, hl, B3, SS⟩
          walk_at "rd"
          obtain ⟨hOD, hl3⟩ := okD_rounds hW.nd hO hts hrs hnd hok (Nat.le_trans hl (by decide))
          exact k lf ts H3 hlf0 fb hT hOD hl3 (B3.mono (by
            show n + 1 + 3 * 0 ≤ n + 20
            omega)) SS
end
end Ow

set_option Elab.async false
set_option linter.all false
set_option maxRecDepth 100000
set_option maxHeartbeats 2000000
/-! an own exception's __init__ that says super().__init__(text) first -/
namespace ErX
open PySem PySem.Spec PyProof.Rows PySem.W PySem.Calls L2
/-- a def whose scope captures __class__ alone -/
structure FnScopeF (N P : List Str) (sc : Scope) : Prop where
  kind : sc.kind = .function
  co : sc.isCoroutine = false
  gen : sc.isGenerator = false
  nd : N.Nodup
  pre : N.take P.length = P
  par : ∀ x ∈ P, sc.names.lookup x = some .local
  nocell : ∀ y ∈ sc.names, y.2 ≠ .cell
  free : ∀ y ∈ sc.names, y.2 = .free → y.1 = "__class__"
  sup : sc.names.lookup ("super" : Str) = some .globalImplicit
  cls : sc.names.lookup ("__class__" : Str) = some .free
def cxF (CX : CXT) (P : Program) (w : World) (K : PySem.W.Frag) (mg : Str → Option Value) (base : Heap) (N : List Str) (qual : Str) (scope : Scope) (f cc : Addr) (cd : Value) (A : Around) (outer : List Env) (s : Shared) (H : Hp) (E : XK) : Cx where
  prog := P
  w := w
  K := K
  mg := mg
  base := base
  A := A.deeper (envX qual scope s.heap.objs.size f cd [("__class__", cc)])
  N := N
  s_0 := s
  H_0 := H
  env := envX qual scope s.heap.objs.size f cd [("__class__", cc)]
  outer := outer
  stack := envX qual scope s.heap.objs.size f cd [("__class__", cc)] :: outer
  ex := []
  calm := true
  fn := fun x => x != "__class__"
  pn := []
  xe := fun e s' => wpAny (model P w) (A.deeper (envX qual scope s.heap.objs.size f cd [("__class__", cc)])) (leaving (envX qual scope s.heap.objs.size f cd [("__class__", cc)]) e) (fun _ s'' => CX outer H s E e s'') (fun e' s'' => CX outer H s E e' s'') s'
theorem one_lookup {x : Str} {c cc : Addr} (h : ([("__class__", cc)] : List (Str × Addr)).lookup x = some c) : x = "__class__" ∧ c = cc := by
  by_cases e : x = "__class__"
  · subst e
    simp at h
    exact ⟨rfl, h.symm⟩
  · have : (x == ("__class__" : Str)) = false := by simpa using e
    simp [List.lookup, this] at h
/-- what stands around the class of the error -/
structure ErC (K : PySem.W.Frag) (P : Program) (C f cc cda : Addr) : Prop where
  oex : OexC K C
  cell : ∃ cl cld csl, K.lookup cc = some ⟨cl, cld, .cell (some (.ref C)), csl⟩
  code : ∃ ccl cdd vs ccs file tf, K.lookup cda = some ⟨ccl, cdd, .fields vs, ccs⟩ ∧ vs[2]? = some (.str file tf) ∧ ((P.main.file : Str) == file) = true
  sup : PySem.W.nsIn K mainGlobals "super" = some none
  third : PySem.W.nsIn K cStatics "thirdparty.any" = some none
  subD : PySem.W.mroIn K C (.ref C) = some true
  subV : PySem.W.subIn K (.ref C) (.type "ValueError") = some true
  ini : PySem.W.ks_superIn K C C "__init__" = some (some (.builtin "ValueError.__init__"))
  top : (P.main.scope.names.lookup ("super" : Str)).isSome = false

theorem look_mem {α β : Type} [BEq α] [LawfulBEq α] {y : α} {u : β} : ∀ {l : List (α × β)}, (l.map (·.1)).Nodup → (y, u) ∈ l → l.lookup y = some u
  | [], _, h => by cases h
  | (a, b) :: l, hn, h => by
    rw [List.map_cons, List.nodup_cons] at hn
    rcases List.mem_cons.mp h with h | h
    · cases h
      simp [List.lookup]
    · have : a ≠ y := fun e => hn.1 (e ▸ List.mem_map.mpr ⟨_, h, rfl⟩)
      have hb : (y == a) = false := by simpa using Ne.symm this
      simp only [List.lookup, hb]
      exact look_mem hn.2 h
theorem lookup_rev {y : Str} {u : Value} {l : List (Str × Value)} (hn : (l.map (·.1)).Nodup) (h : (y, u) ∈ l) : l.reverse.lookup y = some u :=
  look_mem (by rw [List.map_reverse]; exact (List.reverse_perm _).nodup_iff.mpr hn) (List.mem_reverse.mpr h)
theorem zip_fst : ∀ {ps : List Str} {us : List Value}, ((ps.zip us).map (·.1)).Sublist ps
  | [], _ => by simp
  | _ :: _, [] => by simp
  | p :: ps, u :: us => by
    rw [List.zip_cons_cons, List.map_cons]
    exact (zip_fst (ps := ps) (us := us)).cons₂ p
theorem inv_startF {CX : CXT} {P : Program} {w : World} {K : PySem.W.Frag} {mg : Str → Option Value} {base : Heap} {N ps : List Str} {qual : Str} {scope : Scope} {f cc : Addr} {cd : Value} {A : Around} {outer : List Env} {s : Shared} {H : Hp} {E : XK} {us : List Value} {vs : List V} {h₀ : Heap} {tk : Nat} {oc : Obj} {cv : Option Value}
    (S : FnScopeF N ps scope) (hd : A.handled = none) (e0 : Env0 P w K mg base A outer s H) (hl : vs.length = ps.length) (r : Vals vs us) (hcc : K.lookup cc = some oc) (hcv : oc.data = .cell cv)
    (hns : h₀.Ns s.heap.objs.size (fun x => (ps.zip us).reverse.lookup x)) (hk : ∀ b o, s.heap.get? b = some o → h₀.get? b = some o) :
    Inv (cxF CX P w K mg base N qual scope f cc cd A outer s H E) [] (L2.start N vs) H { s with heap := h₀, toks := tk } := by
  have hpl : ps.length ≤ N.length := by have := congrArg List.length S.pre; rw [List.length_take] at this; omega
  have noA : ∀ b : Addr, b ∉ (cxF CX P w K mg base N qual scope f cc cd A outer s H E).ex := fun b z => absurd (show b ∈ ([] : List Addr) from z) (by simp)
  have KX : K.In s.heap := e0.mod.kin.keeps fun b o e => (e0.bs b o e).1
  have hcc0 := e0.mod.kin _ _ hcc
  have hlr := r.length
  refine ⟨⟨e0.mod, S.kind, rfl, rfl, Nat.le_refl _, fun y z c h1 h2 => ?_, fun y hy => ?_, fun y c hf h => ?_, fun _ => hd, Around.frames_deeper e0.frames, .inr ⟨rfl, rfl⟩, fun b z => absurd z (noA b), e0.bs, e0.bsz, fun b _ _ => noA b, fun b z => absurd z (noA b), e0.funs, e0.frf⟩,
    rfl, e0.bare, Un.kept hk, ⟨_, hns, fun i y v h1 h2 h3 => ?_⟩, fun y c h => ?_, e0.hok.fresh (Nat.le_refl _), fun y c h => ?_, fun p hp => absurd (show p ∈ ([] : List (Addr × Obj)) from hp) (by simp), e0.hok.kept hk, ?_⟩
  · exact (one_lookup h1).1.trans (one_lookup h2).1.symm
  · have hy : scope.names.lookup y = some .cell ∨ scope.names.lookup y = some .free := hy
    rcases hy with hy | hy
    · exact absurd rfl (S.nocell _ (PySem.mem_of_lookup hy))
    · have := S.free _ (PySem.mem_of_lookup hy) rfl
      dsimp only at this
      subst this
      exact ⟨cc, by show ([("__class__", cc)] : List (Str × Addr)).lookup ("__class__" : Str) = some cc; simp⟩
  · have := (one_lookup h).1
    subst this
    exact absurd hf (by show ¬ ((("__class__" : Str) != "__class__") = true); simp)
  · have hi : i < vs.length := by
      unfold L2.start at h2
      by_cases hi : i < vs.length
      · exact hi
      · rw [List.getElem?_append_right (by simpa using hi)] at h2
        rw [List.getElem?_replicate] at h2
        split at h2 <;> cases h2
    have ha : vs[i]? = some v := by
      unfold L2.start at h2
      rw [List.getElem?_append_left (by simpa using hi), List.getElem?_map] at h2
      cases e : vs[i]? with
      | none => rw [e] at h2; cases h2
      | some a => rw [e] at h2; cases h2; rfl
    obtain ⟨u, hu, rv⟩ := r.get ha
    have hp : ps[i]? = some y := by
      rw [← S.pre, List.getElem?_take_of_lt (by omega)]; exact h1
    have ndP : ps.Nodup := by rw [← S.pre]; exact S.nd.sublist (List.take_sublist _ _)
    refine ⟨u, rv, .inl ⟨S.par y (List.mem_of_getElem? hp), ?_⟩⟩
    have hz : (ps.zip us)[i]? = some (y, u) := by
      rw [List.getElem?_zip_eq_some]
      exact ⟨hp, hu⟩
    have hnd : ((ps.zip us).map (·.1)).Nodup := ndP.sublist zip_fst
    exact lookup_rev hnd (List.mem_of_getElem? hz)
  · obtain ⟨rfl, rfl⟩ := one_lookup h
    exact ⟨cv, oc, hk _ _ (e0.bs _ _ hcc0).1, hcv⟩
  · obtain ⟨rfl, rfl⟩ := one_lookup h
    exact (e0.bs _ _ hcc0).2
  · unfold L2.start
    show _ = N.length
    rw [List.length_append, List.length_map, List.length_replicate]
    omega
end ErX

set_option Elab.async false
set_option linter.all false
set_option maxRecDepth 100000
set_option maxHeartbeats 2000000
namespace ErX
open PySem PySem.Spec PyProof.Rows PySem.W PySem.Calls L2
theorem kxs_at_call {prog : Program} {w : World} {A : Around} {E : Value → Shared → Prop} {h : Heap} {g : Array GenState} {d : Drawn} {tk : Nat} {os : OsState} {u e C t0 : Addr} {K : Frag} {rest : List Value} {Q : Value → Shared → Prop}
    (T : OexC K C) (X : K.In h) (hu : h.get? u = some (kxs_mw "ValueError.__init__" e)) (he : h.get? e = some ({ cls := .ref C, dict := none, data := .fields #[.ref t0, .none, .none, .none, .bool false, .none] } : Obj)) (hz : rest.length ≤ sizeLine)
    (hq : ∀ h' t1, (∀ b o, b ≠ e → h.get? b = some o → h'.get? b = some o) → h'.get? e = some ({ cls := .ref C, dict := none, data := .fields #[.ref t1, .none, .none, .none, .bool false, .none] } : Obj) → Q .none ⟨h', g, d, tk, os⟩) :
    wpAny (model prog w) A (call (.ref u) rest) Q E ⟨h, g, d, tk, os⟩ := by
  obtain ⟨nm, q, N, bs, bm, sn, sub, ab, col, dd, k0, k1, k2, k3, k5, hC, hbm⟩ := T.cls
  refine wpAny_call (codeAny_of_tree ?_)
  show wpAny _ A.in1 (callAny (.ref u) ⟨rest, []⟩) _ _ _
  simp only [callAny]
  refine wpAny_bind (wpAny_load hu ?_)
  simp only [kxs_mw, show (Value.type "method-wrapper" == Value.type "method" || Value.type "method-wrapper" == Value.type "builtin_function_or_method" || Value.type "method-wrapper" == Value.type "method-wrapper") = true by decide, if_true]
  refine KFB.if_so (by decide) ?_
  refine wpAny_bind (check_bound_init F.excBase_ValueError.toExcCallFacts (X _ _ hC) he rfl ?_)
  refine wpAny_bind (wpAny_pure (wpAny_pure ?_))
  refine ⟨plainId_quiet F.excBase_ValueError.init.plain _, codeAny_builtin F.excBase_ValueError.initEntry ?_⟩
  exact exc_init_tree (cls := .ref C) (t0 := t0) (dv := none) (c2 := .none) (c3 := .none) (b4 := .bool false) he hz fun h' k e' _ => hq h' _ k e'

theorem fn_err {CX : CXT} {P : Program} {w : World} {K : PySem.W.Frag} {mg : Str → Option Value} {base : Heap} {k : Nat} {f cc cda C : Addr} {name qual : Str} {params : Arguments} {body rest : List Stmt} {arg : Expr} {scope : Scope} {dV kV doc pm ct oc : Value} {an od : Option Addr}
    {osl : Array (Option Value)} {N ps : List Str} {sp : Sp} {p0 p1 p2 p3 p4 : Pos} {ar : Arg}
    (lk : K.lookup f = some ⟨oc, od, .func (ksFn name qual params body scope dV kV doc pm an (.ref cda) ct cc), osl⟩)
    (hbd : body = .Expr (.Call (.Attribute (.Call (.Name "super" p0) [] [] p1) "__init__" p2) [arg] [] p3) p4 :: rest)
    (hcd : PySem.W.codeIn K (.ref cda) qual = true) (S : FnScopeF N ps scope) (G : ErC K P C f cc cda)
    (he : ∀ env : Env, ∃ pl : Sem Bool, eval (.Call (.Attribute (.Call (.Name "super" p0) [] [] p1) "__init__" p2) [arg] [] p3) env = (do
      let ov ← attributeBase (.Call (.Name "super" p0) [] [] p1) "__init__" env (eval (.Call (.Name "super" p0) [] [] p1) env)
      standAt p2.atName
      let (f, first) ← holding [ov] (getMethod ov "__init__" pl)
      callWith p3 f first (backTo p3 (starEach [arg] env)) []))
    (hst : ∀ env : Env, starEach [arg] env = [(false, eval arg env)]) (hpl : ∀ env : Env, (backTo p3 (starEach [arg] env)).any (·.1) = false)
    (hself : (params.posonlyargs ++ params.args).head? = some ar) (har : ps[0]? = some ar.arg)
    (len : ∀ vs H Q E, sp vs H Q E → vs.length = ps.length)
    (hbody : ∀ (A : Around) (outer : List Env) (s : Shared) (H : Hp) (vs : List V) (Q : VK) (E : XK), Room k (A.deeper (envX qual scope s.heap.objs.size f (.ref cda) [("__class__", cc)])) → sp vs H Q E →
      ∃ ta t a vs', vs = .ref a :: vs' ∧ H a = some (exo a C none) ∧ PE (cxF CX P w K mg base N qual scope f cc (.ref cda) A outer s H E) arg ta ∧ PSs (cxF CX P w K mg base N qual scope f cc (.ref cda) A outer s H E) rest t ∧
        ta (L2.start N vs) H fun v H1 => H1 a = some (exo a C none) ∧ t { nx := fun _ H' => Q .non H', rt := Q } (L2.start N vs) H1) :
    FnOk P w K mg base CX (k + 1) f (ksFn name qual params body scope dV kV doc pm an (.ref cda) ct cc) ps sp := by
  subst hbd
  refine ⟨len, fun A outer s H args us vs Q E hr e0 hb r hsp => ?_⟩
  have hl := len _ _ _ _ hsp
  have KX : K.In s.heap := e0.mod.kin.keeps fun b o e => (e0.bs b o e).1
  have lim : s.heap.NoLimit := e0.mod.nolimit.keeps fun b o e => (e0.bs b o e).1
  obtain ⟨cl, cld, csl, hcc⟩ := G.cell
  obtain ⟨ccl, cdd, fvs, ccs, file, tf, hcode, hvs, hfile⟩ := G.code
  obtain ⟨nm, qn, Nn, bs, bm, sn, sub, ab, col, dd, k0, k1, k2, k3, k5, hC, hbm⟩ := G.oex.cls
  have hclC : clsIn K C = some { name := nm, bases := bs, mro := .ref C :: bm, ns := Nn, qualname := qn, hasDict := true, slotNames := sn, subclasses := sub, abstract := ab, collection := col, hasDel := false } := by unfold clsIn; rw [hC] <;> rfl
  refine ks_codeAny_call_defAt (fd := ksFn name qual params _ scope dV kV doc pm an (.ref cda) ct cc) hr.depth (KX _ _ lk) rfl lim (codeRec_of KX hcd) rfl hb S.nocell (fun y hy => S.par _ (List.of_mem_zip (show (y.1, y.2) ∈ ps.zip us from hy)).1) (fun h₀ hns hk => ?_) S.co S.gen S.kind
  obtain ⟨ta, t, a, vs', ev, ea, hta, ht, hq⟩ := hbody A outer s H vs Q E (hr.deeper _) hsp
  subst ev
  have I : Inv (cxF CX P w K mg base N qual scope f cc (.ref cda) A outer s H E) [] (L2.start N (.ref a :: vs')) H { s with heap := h₀, toks := s.toks + (ps.zip us).length } := inv_startF S hr.hd e0 hl r hcc rfl hns hk
  generalize hX : cxF CX P w K mg base N qual scope f cc (.ref cda) A outer s H E = X at I hta ht
  have eP : X.prog = P := by rw [← hX]; rfl
  have ew : X.w = w := by rw [← hX]; rfl
  have eA : X.A = A.deeper (envX qual scope s.heap.objs.size f (.ref cda) [("__class__", cc)]) := by rw [← hX]; rfl
  have eV : X.env = envX qual scope s.heap.objs.size f (.ref cda) [("__class__", cc)] := by rw [← hX]; rfl
  have eK : X.K = K := by rw [← hX]; rfl
  have eN : X.N = N := by rw [← hX]; rfl
  refine ks_wpAt_mono (Q := SP X [] { nx := fun _ H' => Q .non H', rt := Q }) (E := X.xe) ?_ (fun fl s' hs => ?_) (fun _ _ x => by rw [← hX] at x; exact x)
  · have X0 : K.In h₀ := by have := I.kIn; rw [eK] at this; exact this
    show _root_.PySem.wpAt (model P w) (A.deeper (envX qual scope s.heap.objs.size f (.ref cda) [("__class__", cc)])) (.func _ (envX qual scope s.heap.objs.size f (.ref cda) [("__class__", cc)])) (execs _ (envX qual scope s.heap.objs.size f (.ref cda) [("__class__", cc)])) _ _ _
    obtain ⟨pl, he⟩ := he (envX qual scope s.heap.objs.size f (.ref cda) [("__class__", cc)])
    have hint : interactive (envX qual scope s.heap.objs.size f (.ref cda) [("__class__", cc)]) = false := by
      unfold interactive
      show (scope.kind == .module && _) = false
      rw [S.kind]
      rfl
    refine ks_wpAt_execs_cons (ks_wpAt_Expr_any (ks_wpAt_MethodCall (pl := pl) ?_ he) hint)
    obtain ⟨t1, ho⟩ := exo_at I.hok ea
    have hxc := X0 _ _ hC
    refine ks_wpAt_super_base (env := envX qual scope s.heap.objs.size f (.ref cda) [("__class__", cc)]) S.sup S.cls (by decide) rfl (X0 _ _ lk) rfl hself rfl (X0 _ _ hcode) rfl hvs hfile G.top ?_
    have hkS : (envX qual scope s.heap.objs.size f (.ref cda) [("__class__", cc)]).scope.kind = .function := S.kind
    obtain ⟨mb, hb1, hb2⟩ := I.mod.blt
    have hbk : ∀ b o, base.get? b = some o → h₀.get? b = some o := by
      have := I.bk
      rw [← hX] at this
      exact this
    have hmg : mg "super" = none := by
      have := I.mod.glob
      rw [← hX] at this
      exact mg_none_of (e0.mod.kin) this G.sup
    have hglob := e0.mod.glob
    obtain ⟨mb, hb1, hb2⟩ := e0.mod.blt
    refine ks_loadName_global hkS S.sup (loadGlobal_builtin (env := envX qual scope s.heap.objs.size f (.ref cda) [("__class__", cc)]) (hglob.keeps hbk) hmg (hb1.keeps hbk) ((hb2 _ (by decide)).trans (by first | boot_by_name | rfl | kernel_rfl)) ⟨rfl, ?_⟩)
    refine wpAny_loadName_free hkS S.cls (by show ([("__class__", cc)] : List (Str × Addr)).lookup ("__class__" : Str) = some cc; simp) ⟨_, X0 _ _ hcc, rfl⟩ ?_
    refine wpAny_loadName_local hkS (S.par _ (List.mem_of_getElem? har)) hns (v := .ref a) ?_ ?_
    · cases r with
      | @cons _ u0 _ ur ra rr =>
        obtain rfl : u0 = Value.ref a := ra
        have hz : (ps.zip (Value.ref a :: ur))[0]? = some (ar.arg, Value.ref a) := by
          rw [List.getElem?_zip_eq_some]
          exact ⟨har, rfl⟩
        have ndP : ps.Nodup := by rw [← S.pre]; exact S.nd.sublist (List.take_sublist _ _)
        exact lookup_rev (ndP.sublist zip_fst) (List.mem_of_getElem? hz)
    refine ks_wpAny_isType_cls hxc rfl ⟨rfl, ?_⟩
    have subD : Looks (model P w) h₀ (isSubtype (.ref C) (.ref C)) true := looks_mroIn X0 G.subD
    refine ks_wpAny_call_super hxc rfl ho rfl (fun c z => by cases z) subD (fun h1 hso k1 => ?_)
    have I1 : Inv X [] (L2.start N (.ref a :: vs')) H ⟨h1, s.gens, s.drawn, s.toks + (ps.zip us).length, s.os⟩ := I.kept (t' := s.toks + (ps.zip us).length) k1
    have X1 : K.In h1 := X0.keeps k1
    have hCm : Looks (model P w) h1 (mroOf (.ref C)) (.ref C :: bm) := fun A Q E s k q => wpAny_bind ((looks_clsIn X1 hclC) A _ E s k (wpAny_pure q))
    have hini : alongIn K "__init__" (((Value.ref C :: bm).dropWhile (· != .ref C)).drop 1) = some (some (.builtin "ValueError.__init__")) := by
      have := G.ini
      unfold ks_superIn at this
      rw [hclC] at this
      exact this
    have IA : InstAt h1 a ({ cls := .ref C, dict := none, data := .fields #[.ref t1, .none, .none, .none, .bool false, .none] } : Obj) C none := ⟨k1 _ _ ho, rfl, rfl, trivial⟩
    refine kxs_getMethod kxs_ValueError hso (looks_opaque X1 G.third) hCm rfl X1 hini (IA.type.andThen (looks_subIn X1 G.subV)) (ks_ne X1 IA hclC) (by decide) ?_
    subst hX
    generalize hu : h1.objs.size = u
    have I2 := I1.kept (t' := s.toks + (ps.zip us).length + 1) (h' := h1.push (kxs_mw "ValueError.__init__" a)) fun b o e => Heap.get?_push_of_some _ e
    have I3 := I2.pins_of (pins' := [(u, kxs_mw "ValueError.__init__" a)]) fun p hp => by
      rw [List.mem_singleton.mp hp]
      refine ⟨Heap.get?_push_at hu.symm rfl, I1.hok.fresh (Nat.le_of_eq hu), ?_, I1.nofs (Nat.le_of_eq hu), fun v z => by cases z⟩
      rw [← hu]
      exact Nat.ne_of_gt I1.lt
    rw [hst] at *
    refine kxs_callWith (i := "ValueError.__init__") (x := a) rfl (evalArgs_plain ?_)
    have hrun := (pa_cons hta pa_nil (hst _)).run p3 [(u, kxs_mw "ValueError.__init__" a)] _ _ H (fun vs H1 => match vs with
      | [_] => H1 a = some (exo a C none) ∧ t { nx := fun _ H' => Q .non H', rt := Q } (L2.start N (.ref a :: vs')) H1
      | _ => False) I3 ?_
    · rw [hst] at hrun
      refine thn hrun fun us1 s1 ⟨vs1, H1, J1, r1, q1⟩ => ?_
      obtain ⟨v1, rfl⟩ : ∃ v, vs1 = [v] := by
        rcases vs1 with _ | ⟨v, _ | ⟨_, _⟩⟩
        · exact q1.elim
        · exact ⟨v, rfl⟩
        · exact q1.elim
      obtain ⟨ea1, hq1⟩ := q1
      have hpin := (J1.pin (u, kxs_mw "ValueError.__init__" a) (List.mem_append_right _ List.mem_cons_self)).1
      obtain ⟨t2, ho2⟩ := exo_at J1.hok ea1
      have XX : K.In s1.heap := J1.kIn
      have hln : us1.length ≤ sizeLine := by
        rw [← r1.length]
        exact (by decide : 1 ≤ sizeLine)
      refine ⟨hpin, ?_⟩
      obtain ⟨hp, g1, d1, tk1, os1⟩ := s1
      refine kxs_at_call G.oex XX hpin ho2 hln fun h' t3 k' e' => ?_
      have J := (J1.write (t' := tk1) (x := a) (e := a) (o := exo a C none) (by rw [ea1]; exact True.intro) (.inl rfl) k' ⟨_, e'⟩ (exo_ok e')).pins_of (pins' := []) fun p hp => by cases hp
      have eu : upd H1 a (exo a C none) = H1 := by
        funext b
        by_cases hb : b = a
        · rw [hb, upd_same, ea1]
        · rw [upd_ne hb]
      rw [eu] at J
      exact wpAt_of_wpAny (ht.run [] _ _ H1 _ J hq1)
    · exact hq
  · have fin : ∀ {σ' : L2.St} {H' : Hp} {v : V} {u : Value}, Inv X [] σ' H' s' → RelV v u → Q v H' → CE outer P w H s Q u s' := by
      subst hX
      exact fun {σ' H' v u} J rv q => ⟨v, H', J.os, J.bare, J.base, J.hok, rv, q⟩
    cases fl with
    | ret u =>
      obtain ⟨v, σ', H', J, rv, q⟩ := hs
      exact fin J rv q
    | next =>
      obtain ⟨σ', H', J, q⟩ := hs
      exact fin (v := V.non) (u := Value.none) J rfl q
    | brk =>
      obtain ⟨_, _, _, q⟩ := hs
      exact False.elim q
    | cont =>
      obtain ⟨_, _, _, q⟩ := hs
      exact False.elim q
end ErX

set_option Elab.async false
set_option linter.all false
set_option maxRecDepth 100000
set_option maxHeartbeats 2000000
/-! try with several clauses, each with or without a name, and an else -/
namespace ErX
open PySem PySem.Spec PyProof.Rows L2
/-- a clause: the slot of its name (if it has one), the class, the suite's reading -/
abbrev Clz := Option Nat × Value × (Addr → Value → Option Addr → TS)
/-- behind a suite its name is gone -/
def lessO : Option Nat → Ends → Ends
  | none, D => D
  | some i, D => ⟨fun τ G => D.nx (τ.set i none) G, D.rt, fun τ G => D.bk (τ.set i none) G, fun τ G => D.ct (τ.set i none) G⟩
def moreO : Option Nat → Addr → L2.St → L2.St
  | none, _, τ => τ
  | some i, a, τ => τ.set i (some (.ref a))
/-- what the clauses wish of an exception, one behind another -/
def wClz (K : PySem.W.Frag) (Wo : WX) (D : Ends) : List Clz → WX
  | [] => Wo
  | z :: r => fun cls d τ G => ∃ b, PySem.W.exmOne K cls z.2.1 = some b ∧ (b = true → ∀ a, G a = none → z.2.2 a cls d (lessO z.1 D) (moreO z.1 a τ) G) ∧ (b = false → wClz K Wo D r cls d τ G)
/-- the clauses as they are written -/
inductive Clauses (X : Cx) : List ExceptHandler → List Clz → Prop
  | nil : Clauses X [] []
  | bare {x : Str} {c : Value} {ts : Addr → Value → Option Addr → TS} {b₀ : Stmt} {more : List Stmt} {p q : Pos} {hs : List ExceptHandler} {l : List Clz} (nm : Names X x c)
      (su : ∀ a oe cls d pn, Zc cls d oe → (∃ vs, oe.data = .fields vs) → PSs (X.suite a ((a, oe) :: pn)) (b₀ :: more) (ts a cls d)) (r : Clauses X hs l) :
      Clauses X (.ExceptHandler (some (.Name x p)) none (b₀ :: more) q :: hs) ((none, c, ts) :: l)
  | named {x n : Str} {i : Nat} {c : Value} {ts : Addr → Value → Option Addr → TS} {b₀ : Stmt} {more : List Stmt} {p q : Pos} {hs : List ExceptHandler} {l : List Clz} (nm : Names X x c) (hi : X.N[i]? = some n) (hn : X.env.kindOf n = some .local)
      (su : ∀ a oe cls d pn, Zc cls d oe → (∃ vs, oe.data = .fields vs) → PSs (X.suite a ((a, oe) :: pn)) (b₀ :: more) (ts a cls d)) (r : Clauses X hs l) :
      Clauses X (.ExceptHandler (some (.Name x p)) (some n) (b₀ :: more) q :: hs) ((some i, c, ts) :: l)
section
variable {X : Cx} {body rest : List Stmt} {h₀ : ExceptHandler} {hs : List ExceptHandler} {l : List Clz} {pos : Pos} {tb : WX → TS} {u : TS} {Wo : WX}
theorem ps_clauses (ho : PSs X rest u) (stk : X.stack = X.env :: X.outer) (fr : X.env.frame = some X.env.locals) (hN : X.N.Nodup) (tk : Takes X Wo)
    (hb : ∀ (W : WX) (pn : List (Addr × Obj)) (xe : Value → Shared → Prop), Takes (X.tr pn xe) W → PassesOwn (model X.prog X.w) X.A X.env xe → PSs (X.tr pn xe) body (tb W))
    (hh : Clauses X (h₀ :: hs) l) : PS X (.Try body (h₀ :: hs) rest [] pos) (fun D τ G => tb (wClz X.K Wo D l) { D with nx := u D } τ G) := by
  constructor
  intro pins s τ G D I wish
  have frames : X.A.frames = some (X.env :: X.outer) := stk ▸ I.ok.frames
  have taken : ∀ v s', XE (X.tr (X.pn ++ pins) fun e t => wpAny (model X.prog X.w) X.A (noteFrame e X.env) (fun _ t2 => wpAny (model X.prog X.w) X.A (setFlight e none) (fun _ t3 => wpAny (model X.prog X.w) X.A (handleBy e X.env (h₀ :: hs)) (SP X pins D) X.xe t3) X.xe t2) X.xe t) (wClz X.K Wo D l) v s' →
      wpAny (model X.prog X.w) X.A (noteFrame v X.env) (fun _ t2 => wpAny (model X.prog X.w) X.A (setFlight v none) (fun _ t3 => wpAny (model X.prog X.w) X.A (handleBy v X.env (h₀ :: hs)) (SP X pins D) X.xe t3) X.xe t2) X.xe s' := by
    rintro _ s' ⟨a, B, sI, _, τ', G', cls, d, rfl, J0, nb, up, sky, na, os, ag, w⟩
    have J : Inv X pins τ' G' sI := J0.ofTry I.ok
    have sky : Sky B (X.env :: X.outer) a (Zc cls d) X.env.locals s'.heap := stk ▸ sky
    refine Sky.land Zc.steady frames fr sky fun h3 fl up3 => ?_
    have J3 : Inv X pins τ' G' { s' with heap := h3 } := J.landed nb fl.1 (up.trans up3) os ag
    obtain ⟨o3, v3, g3, z3, d3⟩ := fl.there
    have apart : a ∉ frs (X.env :: X.outer) := fun hm => by
      obtain ⟨_, o, e, no⟩ := fl.2.2.1.mem hm
      rw [g3] at e
      cases e
      exact no _ d3
    have aL : a ≠ X.env.locals := fun e => apart (List.mem_filterMap.mpr ⟨X.env, List.mem_cons_self, by rw [fr, e]⟩)
    have aF : a ∉ X.fs := fun hm => by
      obtain ⟨e, he, q⟩ := List.mem_filterMap.mp hm
      exact apart (List.mem_filterMap.mpr ⟨e, List.mem_cons_of_mem _ he, q⟩)
    have T3 := J3.suite g3 d3 na aL aF
    have kind : PySem.W.Looks (model X.prog X.w) h3 (typeOf (.ref a)) cls := fun A Q E t k q => wpAny_typeOf_ref (k _ _ g3) (by rw [z3.1]; exact q)
    have look : ∀ {x : Str} {c : Value} {p : Pos} {Q : Value → Shared → Prop} {E : Value → Shared → Prop}, Names X x c → Q c { s' with heap := h3 } → wpAny (model X.prog X.w) (X.A.mark (some (.ref a))) (eval (.Name x p) X.env) Q E { s' with heap := h3 } := by
      rintro x c p Q E ⟨gl, db, m | ⟨m, bt, nn⟩⟩ q
      · exact ld_glob (X := X.suite a ((a, o3) :: (X.pn ++ pins))) T3 gl m q db
      · exact ld_blt (X := X.suite a ((a, o3) :: (X.pn ++ pins))) T3 gl m bt q nn db
    have onwards : Wo cls d τ' G' → wpAny (model X.prog X.w) X.A (handleBy (.ref a) X.env []) (SP X pins D) X.xe { s' with heap := h3 } := fun w => by
      refine wpAny_handleBy_nil ?_
      obtain ⟨_, _, _, oe, vs, T, _, _, he, _, hd, h1, _⟩ := id fl
      unfold PySem.passOn
      refine wpAny_bind (wpAny_field he hd h1 ?_)
      rw [if_neg (show ¬ ((Value.ref T == Value.none) = true) from by simp)]
      have away : wpAny (model X.prog X.w) X.A (setFlight (.ref a) X.env.frame) (fun _ t4 => wpAny (model X.prog X.w) X.A (throw (.ref a) : Sem Flow) (SP X pins D) X.xe t4) X.xe { s' with heap := h3 } := by
        rw [fr]
        exact HandSPX.setFlight_upZ fl fun h4 held up4 => wpAny_throw (tk _ _ ⟨a, B, sI, pins, τ', G', cls, d, rfl, J, nb, (up.trans up3).trans up4, .inr (.inr (stk ▸ held)), na, os, ag, w⟩)
      first
        | exact wpAny_bind (wpAny_pure (wpAny_bind away))
        | exact wpAny_bind away
    have all : ∀ {ks : List ExceptHandler} {ls : List Clz}, Clauses X ks ls → wClz X.K Wo D ls cls d τ' G' → wpAny (model X.prog X.w) X.A (handleBy (.ref a) X.env ks) (SP X pins D) X.xe { s' with heap := h3 } := by
      intro ks ls hk
      induction hk with
      | nil => exact onwards
      | bare nm su r ih =>
        rintro ⟨b, hb1, yes, no⟩
        refine wpAny_handleBy_cons (codeAny_handlers_test (look nm ((PySem.W.exm_one (M := model X.prog X.w) J3.kIn kind hb1).here ?_))) (by intro q; cases q)
        cases b with
        | false => exact ih (no rfl)
        | true =>
          refine codeAny_handlers_suite (HandSPX.lands_againZ fl fun h4 fl4 up4 => ?_)
          have J4 : Inv X pins τ' G' { s' with heap := h4 } := J.landed nb fl4.1 ((up.trans up3).trans up4) os ag
          obtain ⟨o4, v4, g4, z4, d4⟩ := fl4.there
          refine wpAny_mono ((su a o4 cls d (X.pn ++ pins) z4 ⟨_, d4⟩).run [] _ _ G' _ (J4.suite g4 d4 na aL aF) (yes rfl a na)) (fun f t6 e6 => ?_) fun _ _ z => z.elim
          cases f with
          | ret y => obtain ⟨v6, σ6, H6, S6, r6, q6⟩ := e6; exact ⟨_, _, _, S6.unsuite I.ok, r6, q6⟩
          | next => obtain ⟨σ6, H6, S6, q6⟩ := e6; exact ⟨_, _, S6.unsuite I.ok, q6⟩
          | brk => obtain ⟨σ6, H6, S6, q6⟩ := e6; exact ⟨_, _, S6.unsuite I.ok, q6⟩
          | cont => obtain ⟨σ6, H6, S6, q6⟩ := e6; exact ⟨_, _, S6.unsuite I.ok, q6⟩
      | @named x n i c ts b₀ more p q ks2 ls2 nm hi hn su r ih =>
        rintro ⟨b, hb1, yes, no⟩
        refine wpAny_handleBy_cons (codeAny_handlers_test (look nm ((PySem.W.exm_one (M := model X.prog X.w) J3.kIn kind hb1).here ?_))) (by intro q; cases q)
        cases b with
        | false => exact ih (no rfl)
        | true =>
          refine codeAny_handlers_suite_as (HandSPX.lands_againZ fl fun h4 fl4 up4 => ?_)
          have J4 : Inv X pins τ' G' { s' with heap := h4 } := J.landed nb fl4.1 ((up.trans up3).trans up4) os ag
          obtain ⟨o4, v4, g4, z4, d4⟩ := fl4.there
          refine store_ok (X := X.suite a ((a, o4) :: (X.pn ++ pins))) (v := .ref a) (J4.suite g4 d4 na aL aF) hN hi (.inl hn) rfl (fun s5 S5 => ?_) (.inr hn)
          refine wpAny_mono ((su a o4 cls d (X.pn ++ pins) z4 ⟨_, d4⟩).run [] s5 _ G' _ S5 (yes rfl a na)) (fun f t6 e6 => ?_) fun _ _ z => z.elim
          have go : ∀ {σ6 : L2.St} {H6 : Hp} {Q : Shared → Prop}, Inv (X.suite a ((a, o4) :: (X.pn ++ pins))) [] σ6 H6 t6 → (∀ t7, Inv X pins (σ6.set i none) H6 t7 → Q t7) → wpAny (model X.prog X.w) X.A (do bindName X.env n .none; unbindBehindTheSuite X.env n q) (fun _ t7 => Q t7) X.xe t6 :=
            fun {σ6 H6 Q} S6 hq => gone_ok (S6.unsuite I.ok) hN hi hn hq
          cases f with
          | ret y => obtain ⟨v6, σ6, H6, S6, r6, q6⟩ := e6; exact go S6 fun t7 J7 => ⟨_, _, _, J7, r6, q6⟩
          | next => obtain ⟨σ6, H6, S6, q6⟩ := e6; exact go S6 fun t7 J7 => ⟨_, _, J7, q6⟩
          | brk => obtain ⟨σ6, H6, S6, q6⟩ := e6; exact go S6 fun t7 J7 => ⟨_, _, J7, q6⟩
          | cont => obtain ⟨σ6, H6, S6, q6⟩ := e6; exact go S6 fun t7 J7 => ⟨_, _, J7, q6⟩
    exact all hh w
  refine wpAny_Try_except (wpAny_mono ((hb (wClz X.K Wo D l) (X.pn ++ pins) _ taken PassesOwn.looking).run [] s τ G { D with nx := u D } (I.toTry _) wish) (fun f s1 e1 => ?_) fun _ _ z => z)
  cases f with
  | next => obtain ⟨σ1, H1, J1, q1⟩ := e1; exact ho.run pins s1 σ1 H1 D (J1.ofTry I.ok) q1
  | ret y => obtain ⟨v, σ1, H1, J1, r, q1⟩ := e1; exact ⟨v, σ1, H1, J1.ofTry I.ok, r, q1⟩
  | brk => obtain ⟨σ1, H1, J1, q1⟩ := e1; exact ⟨σ1, H1, J1.ofTry I.ok, q1⟩
  | cont => obtain ⟨σ1, H1, J1, q1⟩ := e1; exact ⟨σ1, H1, J1.ofTry I.ok, q1⟩
end
end ErX

set_option Elab.async false
set_option linter.all false
set_option maxRecDepth 100000
set_option maxHeartbeats 2000000
/-! own errors of one field: made, raised, caught, asked -/
namespace ErX
open PySem PySem.Spec PyProof.Rows L2
/-- a text of moderate length -/
structure Sm (x : Str) : Prop where
  len : x.cps.toList.length ≤ 1000
  cps : ∀ c ∈ x.cps.toList, c < 1114112
theorem Sm.ok {x : Str} (h : Sm x) : PyData.strOk x = true := by
  unfold PyData.strOk
  rw [← Array.all_toList, List.all_eq_true]
  exact fun c hc => decide_eq_true (h.cps c hc)
theorem Sm.size {x : Str} (h : Sm x) : x.length ≤ sizeLine := by
  have := h.len
  rw [Array.length_toList] at this
  exact Nat.le_trans (show x.length ≤ 1000 from this) (by decide)
theorem Sm.repr {x : Str} (h : Sm x) : (reprText x).length ≤ 10002 := by
  have h1 := h.len
  rw [Array.length_toList] at h1
  have h1 : x.length ≤ 1000 := h1
  have h2 := PySem.StrLaws.reprText_len x fun c hc => Nat.lt_of_lt_of_le (h.cps c hc) (by decide)
  omega
theorem app_len (a b : Str) : (a ++ b).length = a.length + b.length := by
  show (Str.append a b).cps.size = _
  simp [Str.append, Str.length]
theorem sz_ok {n : Nat} (h : n ≤ 100000) : n ≤ sizeLine := Nat.le_trans h (by decide)
theorem Sm.sz {x : Str} (h : Sm x) : x.length ≤ 1000 := by
  have := h.len
  rw [Array.length_toList] at this
  exact this
theorem int_len {i : Int} (h : -1 ≤ i ∧ i < 10 ^ 60) : ((toString i : String) : Str).length ≤ 60 := by
  by_cases z : 0 ≤ i
  · exact PyProof.Rows.toString_length_le z (by decide) h.2
  · have : i = -1 := by omega
    subst this
    decide +kernel
theorem int_log {i : Int} (h : -1 ≤ i ∧ i < 10 ^ 60) : i.natAbs.log2 < 1920 := by
  have h1 : i.natAbs < 2 ^ 200 := by
    have : (10 : Nat) ^ 60 < 2 ^ 200 := by decide
    omega
  by_cases z : i.natAbs = 0
  · rw [z]; decide
  · have := (Nat.log2_lt z).mpr h1
    omega
/-- what an error's field may be here -/
def OkV (v : V) : Prop := (∃ y, v = .str y ∧ Sm y) ∨ ∃ i : Int, v = .int i ∧ -1 ≤ i ∧ i < 10 ^ 60
/-- __init__ of an error of one field -/
def spEr (C : Addr) (f : Str) : Sp := fun vs H Q _ => ∃ (a : Addr) (v : V), vs = [.ref a, v] ∧ OkV v ∧ H a = some (exo a C none) ∧
  ∀ d H', H d = none → d ≠ a → H' a = some (exo a C (some d)) → H' d = some (exd d [(f, v)]) → (∀ b o, b ≠ a → H b = some o → H' b = some o) → Q .non H'
/-- at the place of a raise -/
theorem er_go {C a : Addr} {f : Str} {v : V} {H : Hp} {Q : XK} {E : XK} (ok : OkV v) (ha : H a = none) (k : ∀ d H', H d = none → H' d = some (.xd [(f, v)]) → Same H H' → Q (.ref C) (some d) H') :
    spEr C f [.ref a, v] (upd H a (exo a C none)) (fun u H2 => u = .non ∧ ∃ (d : Addr) (fs : List (Str × V)), H2 a = some (exo a C (some d)) ∧ H2 d = some (exd d fs) ∧ H d = none ∧ Q (.ref C) (some d) (upd (del H2 a) d (.xd fs))) E := by
  refine ⟨a, v, rfl, ok, upd_same, fun d H' hd da h1 h2 h3 => ⟨rfl, d, _, h1, h2, ?_, ?_⟩⟩
  · rw [upd_ne da] at hd
    exact hd
  · rw [upd_ne da] at hd
    refine k d _ hd upd_same fun b o e => ?_
    have bd : b ≠ d := fun z => by rw [z, hd] at e; cases e
    have ba : b ≠ a := fun z => by rw [z, ha] at e; cases e
    rw [upd_ne bd, del_ne ba]
    exact h3 b o ba ((upd_ne ba).trans e)
/-- all that a raise of the class asks -/
structure ErMk (P : Program) (w : World) (K : PySem.W.Frag) (mg : Str → Option Value) (base : Heap) (k : Nat) (nm : Str) (C : Addr) (f : Str) : Prop where
  oex : OexC K C
  gm : mg nm = some (.ref C)
  ex : ∃ (fI : Addr) (fd : FuncData) (ps : List Str), PySem.W.findIn K (.ref C) "__init__" = some (some (.ref fI)) ∧ PySem.W.typeIn K (.ref fI) = some (.type "function") ∧ FnOk P w K mg base (L2.CX P w) k fI fd ps (spEr C f) ∧ Binds K fd ps []
  xf : XfC K C
  no : PySem.W.findIn K (.ref C) f = some none
section
variable {X : Cx} {k : Nat} {nm f : Str} {C : Addr} {e : Expr} {es : List Expr} {ta : TA} {te : TE} {p pos : Pos}
theorem pmk_er (M : ErMk X.prog X.w X.K X.mg X.base k nm C f) (hr : Room (k + 1) X.A) (ha : PA X (e :: es) ta) (hg : Gl X nm := by rfl) (hdb : (nm == ("__debug__" : Str)) = false := by decide)
    (hs : starEach (e :: es) X.env = (false, eval e X.env) :: starEach es X.env := by rfl) (hpl : (backTo pos (starEach es X.env)).any (·.1) = false := by rfl) :
    PMk X (.Call (.Name nm p) (e :: es) [] pos) (tMkO C (spEr C f) [] ta) := by
  obtain ⟨fI, fd, ps, h1, h2, F, hb⟩ := M.ex
  exact pmk_oex M.oex h1 h2 F hr hb .nil passL hg M.gm ha hdb hs hpl
end
/-! ### isinstance of a caught error that has its dict -/
section
open PySem.W PySem.Calls
variable {prog : Program} {w : World} {A : Around} {E : Value → Shared → Prop} {s : Shared} {K : Frag} {x D : Addr} {ox : Obj} {od : Option Obj}
theorem find_class {C : Addr} {name : Str} {a g : Value} (hc : (clsIn K C).isSome = true) (ha : findIn K (.ref C) name = some (some a)) (hg : specialIn K a "__get__" = some (some g)) (ht : takesIn K a = some true) : findObj K C od name = some (.bind g a) := by
  obtain ⟨cd, hc⟩ := Option.isSome_iff_exists.mp hc
  simp only [findObj, hc, ha, hg, ht, Option.bind_some]
theorem class_of (Y : L2.ExcC K D) (X : K.In s.heap) (I : InstAt s.heap x ox D od) {Q : Option Value → Shared → Prop} (h : Q (some (.ref D)) { s with toks := s.toks + 1 }) : wpAny (model prog w) A (getAttr? (.ref x) "__class__") Q E s := by
  have hf : findObj K D od "__class__" = some (.bind (.builtin "getset_descriptor.__get__") (.builtin "object.__class__")) := find_class (by obtain ⟨cd, hc, _⟩ := any_some Y.hd; rw [hc]; rfl) Y.ha Y.hn Y.ht
  obtain ⟨hp, g, d, t, os⟩ := s
  have ty := I.type (M := model prog w)
  have sub : Looks (model prog w) hp (isInstance (.ref x) (.type "BaseException")) true := ty.andThen (looks_subIn X Y.hs)
  have n2 : (Value.builtin "BaseException.__getattribute__" == Value.builtin "object.__getattribute__") = false := by decide +kernel
  have n1 : (onTheHeap (Value.ref D) && Value.builtin "BaseException.__getattribute__" == Value.builtin "object.__getattribute__") = false := by rw [n2]; rfl
  unfold getAttr? getAttrBy? getAttrBy
  refine wpAny_bind (wpAny_mkText (wpAny_bind (wpAny_attempt (wpAny_holding (wpAny_bind (ty.at (wpAny_bind ((looks_findIn (M := model prog w) X Y.hg).at ?_))))))))
  show wpAny _ _ (if (onTheHeap (Value.ref D) && Value.builtin "BaseException.__getattribute__" == Value.builtin "object.__getattribute__") = true then _ else _) _ _ _
  rw [n1, if_neg Bool.false_ne_true]
  unfold getAttrByItsOwn hookBefore
  refine wpAny_bind ?_
  rw [if_pos (show onTheHeap (Value.ref D) = true from rfl)]
  refine (looks_findIn (M := model prog w) X Y.hk).at (wpAny_bind (wpAny_attempt (wpAny_holding ?_)))
  unfold callGetattribute
  rw [show (false && onTheHeap (Value.builtin "BaseException.__getattribute__")) = false from rfl, if_neg Bool.false_ne_true]
  unfold boundAndCalled
  rw [PySem.F.excAttr_ValueError.ga.bind (.ref x)]
  refine wpAny_bind (wpAny_pure ?_)
  show wpAny _ _ (call (.builtin "BaseException.__getattribute__") [.ref x, .str "__class__" t]) _ _ _
  refine wpAny_call (codeAny_call_builtin PySem.F.excAttr_ValueError.ga.plain PySem.F.entry_bexc_ga (@check_slot (model prog w) _ _ ⟨hp, g, d, t + 1, os⟩ "BaseException.__getattribute__" "BaseException" "__getattribute__" (.ref x) [.str "__class__" t] [] _ (by decide +kernel) (by decide +kernel) sub (PySem.F.args_bexc_ga (.ref x) (.str "__class__" t)) ?_))
  unfold Builtin.«object.__getattribute__»
  refine wpAny_bind (wpAny_of_eq (a := ((Value.ref x : Value), [Value.str "__class__" t])) (by first | rfl | (simp only [slotArgs]; rfl)) ?_)
  refine wpAny_bind (wpAny_pure (wpAny_bind (ty.at (wpAny_bind ((looks_find (M := model prog w) X I hf).at ?_)))))
  show wpAny _ _ (holding [Value.builtin "object.__class__"] (call (.builtin "getset_descriptor.__get__") [.builtin "object.__class__", .ref x, .ref D]) >>= ret) _ _ _
  refine wpAny_bind (wpAny_holding (wpAny_call (class_get (s := ⟨hp, g, d, t + 1, os⟩) (ox := ox) (od := od) X I Y.hm ?_)))
  refine wpAny_pure ?_
  show wpAny _ _ (handedOut (.ref D)) _ _ _
  rw [handedOut_of (v := .ref D) rfl]
  first
    | exact wpAny_pure (wpAny_pure h)
    | exact wpAny_pure h
    | exact wpAny_pure (wpAny_bind (wpAny_pure (wpAny_pure h)))
theorem kit_err (Y : L2.ExcC K D) : KitX K (.ref x) (.ref D) (fun h => InstAt h x ox D od) where
  ty := fun _ _ _ I => I.type
  it := fun _ _ X _ => by
    obtain ⟨cd, hc, _⟩ := any_some Y.hd
    unfold clsIn at hc
    split at hc
    · rename_i ho
      intro A' Q' E' s' k q
      unfold isType loadHead
      exact wpAny_bind (wpAny_loadPart (k _ _ (X _ _ ho)) (wpAny_pure q))
    · cases hc
  ne := fun h tp dd its n sl X htp => by
    obtain ⟨cd, hc, _⟩ := any_some Y.hd
    refine Bool.eq_false_iff.mpr fun q => ?_
    have e : D = tp := Value.ref.inj (beq_iff_eq.mp q)
    subst e
    unfold clsIn at hc
    split at hc
    · rename_i ho
      have z := (X _ _ ho).symm.trans htp
      cases z
    · cases hc
  ca := fun X I k => class_of Y X I k
end
/-- isinstance(e, c): e the error that the suite holds -/
theorem call_isX {X : Cx} {a D : Addr} {oe : Obj} {cls : Value} {d : Option Addr} {pn : List (Addr × Obj)} (C : L2.ExcC X.K D) (hz : Zc cls d oe) (hf : ∃ vs, oe.data = .fields vs) :
    CallR (X.suite a ((a, oe) :: pn)) (.builtin "isinstance") (fun xs H Q => ∃ (c : V) (cv : Value) (b : Bool) (dd : Addr) (fs : List (Str × V)), xs = [.ref a, c] ∧ cls = .ref D ∧ d = some dd ∧ H dd = some (.xd fs) ∧ (∀ u, RelV c u → u = cv) ∧ PySem.W.kitOne X.K (.ref D) cv = some b ∧ Q (.bl b) H) := by
  intro pins s σ H xs us Q I r h
  obtain ⟨c, cv, b, dd, fs, rfl, rfl, rfl, ed, hcv, e, q⟩ := h
  cases r with
  | cons rx rr =>
    cases rr with
    | cons rt rr =>
      cases rr
      cases rx
      have ec := hcv _ rt
      subst ec
      obtain ⟨hget, _⟩ := I.pin (a, oe) (List.mem_append.mpr (.inl List.mem_cons_self))
      obtain ⟨vs, hv⟩ := hf
      have hx : ObjOk X.prog X.w H s.heap dd (.xd fs) := I.hok dd _ ed
      obtain ⟨mA, hns, hr⟩ := hx
      obtain ⟨od, ho, hl⟩ := lookIn_ns hns
      have J : PySem.W.InstAt s.heap a oe D (some od) := ⟨hget, hz.1, by unfold PySem.W.notCls; rw [hv] <;> rfl, by rw [hz.2]; exact ho⟩
      exact PySem.W.kia_one (kit_err C) I.kIn J e (fun z => nomatch z) fun tk => ⟨.bl b, H, I.kept (t' := tk) fun _ _ z => z, rfl, q⟩
end ErX

set_option Elab.async false
set_option linter.all false
set_option maxRecDepth 100000
set_option maxHeartbeats 2000000
/-! calls that may raise, wished for at the caller's slots: a def, a method, a classmethod, a class that is made -/
namespace ErX
open PySem PySem.Spec PyProof.Rows L2
abbrev FnX (P : Program) (w : World) (K : PySem.W.Frag) (mg : Str → Option Value) (base : Heap) (k : Nat) (f : Addr) (sp : Sp) : Prop := FnR P w K mg base (L2.CX P w) k f sp
structure CalX (P : Program) (w : World) (K : PySem.W.Frag) (mg : Str → Option Value) (base : Heap) (x : Str) (k : Nat) (sp : Sp) : Prop where
  ex : ∃ f, mg x = some (.ref f) ∧ FnX P w K mg base k f sp ∧ PySem.W.keepIn K (.ref f) = true
structure MetX (P : Program) (w : World) (K : PySem.W.Frag) (mg : Str → Option Value) (base : Heap) (C : Addr) (m : Str) (k : Nat) (sp : Sp) : Prop where
  cl : Cls K C
  ex : ∃ f, Meth K C m f ∧ FnX P w K mg base k f sp
structure ClmX (P : Program) (w : World) (K : PySem.W.Frag) (mg : Str → Option Value) (base : Heap) (C : Addr) (m : Str) (k : Nat) (sp : Sp) : Prop where
  ex : ∃ mc p g, ClX.CRead K C mc ∧ ClX.CMet K C mc m p g ∧ FnX P w K mg base k g sp
structure MakX (P : Program) (w : World) (K : PySem.W.Frag) (mg : Str → Option Value) (base : Heap) (x : Str) (C : Addr) (k : Nat) (sp : Sp) : Prop where
  gm : mg x = some (.ref C)
  ex : ∃ f, Mk K C f ∧ FnX P w K mg base k f sp
/-- a wish that fits every state's slots -/
abbrev At (X : Cx) (E : L2.St → XK) : Prop := ∀ σ, PassesAt (L2.CX X.prog X.w) X σ (E σ)
/-- in a def that may raise -/
theorem at_def {X : Cx} {E : XK} (tk : Takes X (fun cls d _ H => E cls d H)) : At X (fun _ => E) := fun σ pins H s e s' I c => passes_call tk (fun _ _ _ _ h => h) pins σ H s e s' I c
/-- in a try -/
theorem at_try {X : Cx} {W : WX} (tk : Takes X W) : At X (WE W) := fun σ => passAt tk σ
/-- where nothing is raised -/
theorem at_no {X : Cx} : At X (fun _ => E0) := fun σ pins H s e s' I c => passL pins σ H s e s' I c
section
variable {X : Cx} {pins : List (Addr × Obj)} {σ : L2.St} {H : Hp} {s : Shared} {k : Nat} {f C : Addr} {sp : Sp} {E : L2.St → XK} {Q : VK} {us : List Value} {vs : List V}
theorem run_x (F : FnX X.prog X.w X.K X.mg X.base k f sp) (hr : Room k X.A) (hx : At X E) (I : Inv X pins σ H s) (r : Vals vs us) (h : sp vs H Q (E σ)) : codeAny (model X.prog X.w) X.A (.call (.ref f) ⟨us, []⟩) (wants (EP X pins σ Q) X.xe) s := by
  refine codeAny_mono (F X.A X.stack s H us vs Q (E σ) hr I.env0 r h) fun z s' hz => ?_
  rcases z with e | (_ | _ | _ | _)
  · exact hx σ pins H s e s' I hz
  · exact hz.elim
  · exact hz.elim
  · exact hz.elim
  · exact I.after hz
end
section
variable {X : Cx} {k : Nat} {C : Addr} {sp : Sp} {E : L2.St → XK} {x m : Str} {e o : Expr} {es : List Expr} {ta : TE} {t : TA} {p pos apos : Pos}
def tCalX (sp : Sp) (E : L2.St → XK) (t : TA) : TE := fun σ H Q => t σ H fun vs G => sp vs G Q (E σ)
theorem pe_calX (c : CalX X.prog X.w X.K X.mg X.base x k sp) (hr : Room k X.A) (hx : At X E) (ha : PA X (e :: es) t) (hg : Gl X x := by rfl) (hdb : (x == ("__debug__" : Str)) = false := by decide)
    (hs : starEach (e :: es) X.env = (false, eval e X.env) :: starEach es X.env := by rfl) (hpl : (backTo pos (starEach es X.env)).any (·.1) = false := by rfl) : PE X (.Call (.Name x p) (e :: es) [] pos) (tCalX sp E t) := by
  obtain ⟨f, hm, F, hk⟩ := c.ex
  exact ⟨fun pins s σ H Q I h => wpAny_Call_Name_kw (ld_glob I hg hm (PySem.W.callWith_K (h₀ := X.base) I.ok.mod.kin hk (thn (ha.run pos pins s σ H _ I h) fun us s1 ⟨vs, G, J, r, q⟩ => ⟨J.kIn, wpAny_call (run_x F hr hx J r q)⟩) hs hpl) hdb)⟩
def tMetX (C : Addr) (m : Str) (sp : Sp) (E : L2.St → XK) (ta : TE) (t : TA) : TE := fun σ H Q => ta σ H fun x G => ∃ a dx fs, x = .ref a ∧ G a = some (.ins C dx fs) ∧ fs.lookup m = none ∧ t σ G fun vs G2 => sp (x :: vs) G2 Q (E σ)
theorem pe_metX {pl : Sem Bool} (c : MetX X.prog X.w X.K X.mg X.base C m k sp) (hr : Room k X.A) (hx : At X E) (ho : PE X o ta) (ha : PA X (e :: es) t)
    (hs : starEach (e :: es) X.env = (false, eval e X.env) :: starEach es X.env := by rfl) (hpl : (backTo pos (starEach es X.env)).any (·.1) = false := by rfl)
    (ht : eval (.Call (.Attribute o m apos) (e :: es) [] pos) X.env = (do
      let ov ← eval o X.env
      standAt apos.atName
      let (f, first) ← holding [ov] (getMethod ov m pl)
      callWith pos f first (backTo pos (starEach (e :: es) X.env)) (backToKw pos (keywordEach [] X.env))) := by rfl) : PE X (.Call (.Attribute o m apos) (e :: es) [] pos) (tMetX C m sp E ta t) := by
  obtain ⟨f, hm, F⟩ := c.ex
  refine ⟨fun pins s σ H Q I h => PySem.W.methodCall_KW (pl := pl) (thn (ho.run pins s σ H _ I h) fun u s1 ⟨x, G, J, rx, a, dx, fs, ex, ea, l, q⟩ => ?_) ht⟩
  subst ex
  obtain rfl : u = Value.ref a := rx
  exact getmeth_ok J ea c.cl hm l (PySem.W.callWith_K (first := [.ref a]) (h₀ := X.base) J.ok.mod.kin hm.kp (thn (ha.run pos pins s1 σ G _ J q) fun us s2 ⟨vs, G2, J2, r, q2⟩ => ⟨J2.kIn, wpAny_call (run_x (us := .ref a :: us) (vs := .ref a :: vs) F hr hx J2 (.cons rfl r) q2)⟩) hs hpl)
theorem pe_metX0 {pl : Sem Bool} (c : MetX X.prog X.w X.K X.mg X.base C m k sp) (hr : Room k X.A) (hx : At X E) (ho : PE X o ta)
    (ht : eval (.Call (.Attribute o m apos) [] [] pos) X.env = (do
      let ov ← eval o X.env
      standAt apos.atName
      let (f, first) ← holding [ov] (getMethod ov m pl)
      callWith pos f first (backTo pos (starEach [] X.env)) (backToKw pos (keywordEach [] X.env))) := by rfl) : PE X (.Call (.Attribute o m apos) [] [] pos) (tMetX C m sp E ta tNil) := by
  obtain ⟨f, hm, F⟩ := c.ex
  refine ⟨fun pins s σ H Q I h => PySem.W.methodCall_KW (pl := pl) (thn (ho.run pins s σ H _ I h) fun u s1 ⟨x, G, J, rx, a, dx, fs, ex, ea, l, q⟩ => ?_) ht⟩
  subst ex
  obtain rfl : u = Value.ref a := rx
  exact getmeth_ok J ea c.cl hm l (PySem.W.callWith_K0 J.kIn hm.kp (wpAny_call (run_x (us := [.ref a]) (vs := [.ref a]) F hr hx J (.cons rfl .nil) q)))
def tClmX (C : Addr) (sp : Sp) (E : L2.St → XK) (ta : TE) (t : TA) : TE := fun σ H Q => ta σ H fun x G => x = .ref C ∧ t σ G fun vs G2 => sp (.ref C :: vs) G2 Q (E σ)
theorem pe_clmX {pl : Sem Bool} (c : ClmX X.prog X.w X.K X.mg X.base C m k sp) (hr : Room k X.A) (hx : At X E) (ho : PE X o ta) (ha : PA X (e :: es) t)
    (hs : starEach (e :: es) X.env = (false, eval e X.env) :: starEach es X.env := by rfl) (hpl : (backTo pos (starEach es X.env)).any (·.1) = false := by rfl)
    (ht : eval (.Call (.Attribute o m apos) (e :: es) [] pos) X.env = (do
      let ov ← eval o X.env
      standAt apos.atName
      let (f, first) ← holding [ov] (getMethod ov m pl)
      callWith pos f first (backTo pos (starEach (e :: es) X.env)) (backToKw pos (keywordEach [] X.env))) := by rfl) : PE X (.Call (.Attribute o m apos) (e :: es) [] pos) (tClmX C sp E ta t) := by
  obtain ⟨mc, q0, g, r, cm, F⟩ := c.ex
  refine ⟨fun pins s σ H Q I h => PySem.W.methodCall_KW (pl := pl) (thn (ho.run pins s σ H _ I h) fun u s1 ⟨x, G, J, rx, ex, q⟩ => ?_) ht⟩
  subst ex
  obtain rfl : u = Value.ref C := rx
  refine ClX.getmethcm_ok J r cm fun s2 J2 => ClX.callwith_cm J2 (ClX.base_none J (Nat.le_refl _)) cm.fi (thn (ha.run pos _ s2 σ G _ J2 q) fun us s3 ⟨vs, G2, J3, rv, q2⟩ => ⟨⟨ClX.pin_at J3, J3.kIn⟩, ?_⟩) hs hpl
  exact thn (wpAny_call (PySem.W.method_call (ClX.pin_at J3) (run_x (us := .ref C :: us) (vs := .ref C :: vs) F hr hx J3 (.cons rfl rv) q2))) fun _ _ y => ClX.unpinE y
def tMakX (C : Addr) (sp : Sp) (E : L2.St → XK) (t : TA) : TE := fun σ H Q => t σ H fun vs G => ∀ x dx, G x = none → G dx = none → dx ≠ x → sp (.ref x :: vs) (upd (upd G dx (.own x)) x (.ins C dx [])) (fun v G2 => v = .non ∧ Q (.ref x) G2) (E σ)
theorem pe_makX (c : MakX X.prog X.w X.K X.mg X.base x C k sp) (hr : Room (k + 1) X.A) (hx : At X E) (ha : PA X (e :: es) t) (hg : Gl X x := by rfl) (hdb : (x == ("__debug__" : Str)) = false := by decide)
    (hs : starEach (e :: es) X.env = (false, eval e X.env) :: starEach es X.env := by rfl) (hpl : (backTo pos (starEach es X.env)).any (·.1) = false := by rfl) : PE X (.Call (.Name x p) (e :: es) [] pos) (tMakX C sp E t) := by
  obtain ⟨f, M, F⟩ := c.ex
  refine ⟨fun pins s σ H Q I h => wpAny_Call_Name_kw (ld_glob I hg c.gm (PySem.W.callWith_K (h₀ := X.base) I.ok.mod.kin M.kp (thn (ha.run pos pins s σ H _ I h) fun us s1 ⟨vs, G, J, r, q⟩ => ⟨J.kIn, ?_⟩) hs hpl) hdb)⟩
  have q := q (s1.heap.objs.size + 1) s1.heap.objs.size (J.hok.fresh (Nat.le_succ _)) (J.hok.fresh (Nat.le_refl _)) (Nat.ne_of_lt (Nat.lt_succ_self _))
  have J2 := Inv.made (C := C) J
  show wpAny _ _ (call (.ref C) us) _ _ _
  refine wpAny_call (make_map (f := f) J.kIn M.makes M.init (beq_iff_eq.mp M.fn) (codeAny_mono (F _ X.stack _ _ (Value.ref (s1.heap.objs.size + 1) :: us) (V.ref (s1.heap.objs.size + 1) :: vs) _ (E σ) (hr.make C us []) (J2.env0.make C us []) (.cons rfl r) q) fun z s' hz => ?_))
  rcases z with y | (_ | _ | _ | _)
  · exact hx σ pins _ _ y s' J2 hz
  · exact hz.elim
  · exact hz.elim
  · exact hz.elim
  · obtain ⟨v, G2, J3, rv, ev, q3⟩ := J2.after hz
    subst ev
    exact ⟨rv, .ref (s1.heap.objs.size + 1), G2, J3, rfl, q3⟩
end
end ErX

set_option Elab.async false
set_option linter.all false
set_option maxRecDepth 100000
set_option maxHeartbeats 1000000
namespace Ow
open PySem PySem.Spec PyProof.Rows L2 ErX
/-! ### what is wrong with a domain -/
def l3 (w : Str) : Bool := decide (w = "any") || (decide (w = "none") || decide (w = "some"))
def r2 (w : Str) : Bool := decide (w = "first") || decide (w = "any")
def badN (wm : Ws) (y : Str) : Bool := !(isLc y.cps.toList) || !(l3 (wo wm y))
def badR (wm : Ws) (known : List Str) (t : Tr) : Bool := !(isRc t.1.cps.toList) || (decide (t.1 ∈ known) || (!(decide (t.2.1 ∈ wm.map (·.1)) && decide (wo wm t.2.1 = "some")) || !(r2 t.2.2)))
def firstR (wm : Ws) : List Str → Ts → Option Str
  | _, [] => none
  | known, t :: r => if badR wm known t = true then some t.1 else firstR wm (known ++ [t.1]) r
def wrongD (ys : List Str) (wm : Ws) (ts : Ts) : Option Str := match ys.find? (badN wm) with
  | some y => some y
  | none => firstR wm [] ts
def Wr (wm : Ws) (ts : Ts) (r : Option Str) : Prop := ∃ ys : List Str, ys.Perm (wm.map (·.1)) ∧ sortedS ys = true ∧ r = wrongD ys wm ts
theorem Wr.one {wm : Ws} {ts : Ts} {r q : Option Str} (a : Wr wm ts r) (b : Wr wm ts q) : r = q := by
  obtain ⟨ys, p1, s1, e1⟩ := a
  obtain ⟨zs, p2, s2, e2⟩ := b
  have : ys = zs := (srt_iff p1 p2 s1 s2).mpr (List.Perm.refl _)
  rw [e1, e2, this]
theorem find_at {p : Str → Bool} : ∀ {ys : List Str} {i : Nat} {y : Str}, (∀ z ∈ ys.take i, p z = false) → ys[i]? = some y → p y = true → ys.find? p = some y
  | [], _, _, _, h, _ => by cases h
  | a :: ys, 0, y, _, h, hp => by
    cases h
    rw [List.find?_cons, hp]
  | a :: ys, i + 1, y, h0, h, hp => by
    rw [List.take_succ_cons] at h0
    rw [List.find?_cons, h0 a List.mem_cons_self]
    exact find_at (fun z hz => h0 z (List.mem_cons_of_mem _ hz)) (by simpa using h) hp
theorem find_no {p : Str → Bool} {ys : List Str} (h : ∀ z ∈ ys, p z = false) : ys.find? p = none := List.find?_eq_none.mpr fun z hz => by rw [h z hz]; exact Bool.false_ne_true
theorem wr_name {ys : List Str} {wm : Ws} {ts : Ts} {i : Nat} {y : Str} (hp : ys.Perm (wm.map (·.1))) (hs : sortedS ys = true) (h : ∀ z ∈ ys.take i, badN wm z = false) (hy : ys[i]? = some y) (hb : badN wm y = true) : Wr wm ts (some y) :=
  ⟨ys, hp, hs, by unfold wrongD; rw [find_at h hy hb]⟩
theorem wr_rest {ys : List Str} {wm : Ws} {ts : Ts} (hp : ys.Perm (wm.map (·.1))) (hs : sortedS ys = true) (h : ∀ z ∈ ys, badN wm z = false) : Wr wm ts (firstR wm [] ts) :=
  ⟨ys, hp, hs, by unfold wrongD; rw [find_no h]⟩
theorem drop_at {ts : Ts} {i : Nat} {t : Tr} (h : ts[i]? = some t) : ts.drop i = t :: ts.drop (i + 1) := by
  obtain ⟨hi, e⟩ := List.getElem?_eq_some_iff.mp h
  rw [List.drop_eq_getElem_cons hi, e]
theorem take_at {ts : Ts} {i : Nat} {t : Tr} (h : ts[i]? = some t) : (ts.take (i + 1)).map (·.1) = (ts.take i).map (·.1) ++ [t.1] := by
  rw [List.take_succ, h, List.map_append]
  rfl
theorem firstR_go {wm : Ws} {ts : Ts} {i : Nat} {t : Tr} (h : ts[i]? = some t) (hb : badR wm ((ts.take i).map (·.1)) t = false) : firstR wm ((ts.take i).map (·.1)) (ts.drop i) = firstR wm ((ts.take (i + 1)).map (·.1)) (ts.drop (i + 1)) := by
  rw [drop_at h, take_at h]
  show (if badR wm ((ts.take i).map (·.1)) t = true then some t.1 else firstR wm ((ts.take i).map (·.1) ++ [t.1]) (ts.drop (i + 1))) = _
  rw [hb, if_neg Bool.false_ne_true]
theorem firstR_at {wm : Ws} {ts : Ts} {i : Nat} {t : Tr} (h : ts[i]? = some t) (hb : badR wm ((ts.take i).map (·.1)) t = true) : firstR wm ((ts.take i).map (·.1)) (ts.drop i) = some t.1 := by
  rw [drop_at h]
  show (if badR wm ((ts.take i).map (·.1)) t = true then some t.1 else firstR wm ((ts.take i).map (·.1) ++ [t.1]) (ts.drop (i + 1))) = _
  rw [hb, if_pos rfl]
/-- the texts are of moderate length -/
structure SmD (wm : Ws) (ts : Ts) : Prop where
  w : ∀ q ∈ wm, Sm q.1 ∧ Sm q.2
  t : ∀ t ∈ ts, Sm t.1 ∧ Sm t.2.1 ∧ Sm t.2.2
theorem sm_sym {x : Str} (h : isSym x = true) : Sm x := ⟨Nat.le_trans (sym_small h) (by decide), sym_cps h⟩
theorem sm_any : Sm "any" := ⟨by decide +kernel, by decide +kernel⟩
theorem sm_none : Sm "none" := ⟨by decide +kernel, by decide +kernel⟩
theorem sm_some : Sm "some" := ⟨by decide +kernel, by decide +kernel⟩
theorem sm_first : Sm "first" := ⟨by decide +kernel, by decide +kernel⟩
theorem OkD.sm {wm : Ws} {ts : Ts} (h : OkD wm ts) : SmD wm ts := by
  have w1 : ∀ {w : Str}, (w = "any" ∨ w = "none" ∨ w = "some") → Sm w := fun {w} e => by
    rcases e with e | e | e
    · rw [e]; exact sm_any
    · rw [e]; exact sm_none
    · rw [e]; exact sm_some
  refine ⟨fun q hq => ⟨sm_sym (h.sym q.1 (List.mem_append_left _ (List.mem_map.mpr ⟨q, hq, rfl⟩))), w1 (h.nam q hq).2⟩, fun t ht => ⟨sm_sym (h.sym t.1 (List.mem_append_right _ (List.mem_map.mpr ⟨t, ht, rfl⟩))), ?_, ?_⟩⟩
  · exact sm_sym (h.sym _ (List.mem_append_left _ (List.mem_map.mpr ⟨_, (h.rnd t ht).2.1, rfl⟩)))
  · rcases (h.rnd t ht).2.2 with e | e
    · rw [e]; exact sm_first
    · rw [e]; exact sm_any
theorem SmD.wo {wm : Ws} {ts : Ts} (h : SmD wm ts) {y : Str} (hy : y ∈ wm.map (·.1)) : Sm (wo wm y) := (h.w _ (wo_mem hy)).2
theorem SmD.key {wm : Ws} {ts : Ts} (h : SmD wm ts) {y : Str} (hy : y ∈ wm.map (·.1)) : Sm y := (h.w _ (wo_mem hy)).1
/-- a text is in three words, in two -/
theorem inV_l3 (w : Str) : inV (.str w) [V.str "any", V.str "none", V.str "some"] = l3 w := by
  rw [show [V.str "any", V.str "none", V.str "some"] = (["any", "none", "some"] : List Str).map V.str from rfl, inV_str]
  unfold l3
  simp
theorem inV_r2 (w : Str) : inV (.str w) [V.str "first", V.str "any"] = r2 w := by
  rw [show [V.str "first", V.str "any"] = (["first", "any"] : List Str).map V.str from rfl, inV_str]
  unfold r2
  simp
theorem kvT_out : ∀ {m : Ws} {y : Str}, y ∉ m.map (·.1) → valV (kvT m) (Sum.inr y) = none
  | [], _, _ => rfl
  | (x, u) :: r, y, h => by
    rw [List.map_cons, List.mem_cons, not_or] at h
    show valV (((Sum.inr x : Key), V.str u) :: kvT r) (Sum.inr y) = none
    rw [valV_neg (fun q => h.1 (Sum.inr.inj q).symm), kvT_out h.2]
/-- the promise of a domain's making, wrong or right -/
def spDInitX (K : PySem.W.Frag) (C CB : Addr) : Sp := fun vs H Q E => ∃ (x d r dx : Addr) (xs : List V) (wm : Ws) (ts : Ts), vs = [.ref x, .ref d, .ref r] ∧ H x = some (.ins C dx []) ∧ WAt H d wm ∧ (SqL K H r xs ∨ SqT K H r xs) ∧ Paired (TripAt H) xs ts ∧ SmD wm ts ∧ wm.length ≤ 8 ∧ ts.length ≤ 8 ∧
  (Wr wm ts none → ∀ H' e l, DomIn C H' x wm ts dx e l → H e = none → H l = none → Stay x H H' → Q .non H') ∧
  (∀ s, Wr wm ts (some s) → ∀ d' H', H d' = none → H' d' = some (.xd [("symbol", .str s)]) → Stay x H H' → E (.ref CB) (some d') H')
end Ow

set_option Elab.async false
set_option linter.all false
set_option maxRecDepth 100000
set_option maxHeartbeats 1000000
namespace OpX
open PySem PySem.Spec PyProof.Rows L2
/-! a text times an int -/
def rMulS : R2 := fun x y H Q => ∃ (z : Str) (i : Int), x = .str z ∧ y = .int i ∧ z.length ≤ 16 ∧ 0 ≤ i ∧ i ≤ 1048576 ∧ Q (.str (Txt.mul z i)) H
theorem op_mul_str {X : Cx} : OpR X (binaryOp .Mult) rMulS := by
  intro pins s σ H x y v u Q I rx ry h
  obtain ⟨z, i, rfl, rfl, hz, h0, h1, q⟩ := h
  obtain ⟨t, rfl⟩ := rx
  obtain ⟨t', rfl⟩ := ry
  exact SB.mul (mulOk_of 16 1048576 (by omega) (by omega) (by omega) (by decide) (by decide)) fun t' k => ⟨.str _, H, I.tok _, ⟨_, rfl⟩, q⟩
end OpX
namespace Ow
open PySem PySem.Spec PyProof.Rows L2 ErX
instance (x : Str) : Decidable (Sm x) := by
  have : Sm x ↔ (x.cps.toList.length ≤ 1000 ∧ ∀ c ∈ x.cps.toList, c < 1114112) := ⟨fun h => ⟨h.1, h.2⟩, fun h => ⟨h.1, h.2⟩⟩
  exact decidable_of_iff _ this.symm
theorem kit_ref {K : PySem.W.Frag} {C D : Addr} (hd : PySem.W.hasDictIn K D = true) (ht : PySem.W.typeIn K (.ref D) = some (.type "type")) (h : PySem.W.subIn K (.ref C) (.ref D) = some true) : PySem.W.kitOne K (.ref C) (.ref D) = some true := by
  obtain ⟨cd, hc, _⟩ := PySem.W.any_some hd
  unfold PySem.W.kitOne
  split
  · rfl
  · show (if ((PySem.W.clsIn K D).isSome && PySem.W.typeIn K (.ref D) == some (.type "type")) = true then PySem.W.subIn K (.ref C) (.ref D) else none) = some true
    rw [if_pos (by rw [hc, ht]; rfl)]
    exact h
def mulE (n : Int) : Str := ("r" : Str) ++ Txt.mul "2" n
theorem sm_60 : Sm (mulE 60) := by decide +kernel
theorem sm_61 : Sm (mulE 61) := by decide +kernel
end Ow

set_option Elab.async false
set_option linter.all false
set_option maxRecDepth 100000
set_option maxHeartbeats 1000000
/-! forms, made of right or wrong symbols -/
namespace Ow
open PySem PySem.Spec PyProof.Rows L2 ErX
def odd (z : Str) : Bool := !isSym z
def spInitX (C CB : Addr) : Sp := fun vs H Q E => ∃ (x d dx : Addr) (c : Int) (m : Ps), vs = [.ref x, .int c, .ref d] ∧ H x = some (.ins C dx []) ∧ H d = some (.dK (kvI m)) ∧ (m.map (·.1)).Nodup ∧ (∀ q ∈ m, Sm q.1) ∧ m.length < 64 ∧
  ((∀ q ∈ m, isSym q.1 = true) → ∀ d' H', H d' = none → H' x = some (.ins C dx (fF c d')) → DictAt H' d' (nzs m) → Stay x H H' → Q .non H') ∧
  (∀ ys y, ys.Perm (m.map (·.1)) → sortedS ys = true → ys.find? odd = some y → ∀ d' H', H d' = none → H' d' = some (.xd [("symbol", .str y)]) → Stay x H H' → E (.ref CB) (some d') H')
def spOfX (C CB : Addr) : Sp := fun vs H Q E => ∃ (c : Int) (l : Addr) (ps : Ps), vs = [.ref C, .int c, .ref l] ∧ PairsAt H l ps ∧ (∀ q ∈ ps, Sm q.1) ∧ ps.length < 64 ∧
  ((∀ q ∈ ps, isSym q.1 = true) → ∀ p m H', H p = none → FormAt C H' p c m → Same H H' → Q (.ref p) H') ∧
  (∀ y, (ps.map (·.1)).find? odd = some y → ∀ d' H', H d' = none → H' d' = some (.xd [("symbol", .str y)]) → Same H H' → E (.ref CB) (some d') H')
theorem odd_no {l : List Str} (h : ∀ z ∈ l, isSym z = true) : l.find? odd = none := find_no fun z hz => by unfold odd; rw [h z hz]; rfl
theorem odd_none {l : List Str} (h : l.find? odd = none) : ∀ z ∈ l, isSym z = true := fun z hz => by
  have := List.find?_eq_none.mp h z hz
  unfold odd at this
  simpa using this
end Ow

set_option Elab.async false
set_option linter.all false
set_option maxRecDepth 100000
set_option maxHeartbeats 1000000
/-! the least value of a form in a domain -/
namespace Ow
open PySem PySem.Spec PyProof.Rows L2
def np (n : Int) : Int := if n < 0 then n else 0
def tot {α : Type} (f : α → Int) : List α → Int
  | [] => 0
  | a :: l => f a + tot f l
theorem tot_app {α : Type} (f : α → Int) : ∀ a b : List α, tot f (a ++ b) = tot f a + tot f b
  | [], b => by show tot f b = 0 + tot f b; omega
  | x :: a, b => by
    show f x + tot f (a ++ b) = f x + tot f a + tot f b
    rw [tot_app f a b]
    omega
theorem tot_congr {α : Type} {f g : α → Int} : ∀ {l : List α}, (∀ a ∈ l, f a = g a) → tot f l = tot g l
  | [], _ => rfl
  | a :: l, h => by
    show f a + tot f l = g a + tot g l
    rw [h a List.mem_cons_self, tot_congr fun b hb => h b (List.mem_cons_of_mem _ hb)]
theorem tot_zero {α : Type} {f : α → Int} : ∀ {l : List α}, (∀ a ∈ l, f a = 0) → tot f l = 0
  | [], _ => rfl
  | a :: l, h => by
    show f a + tot f l = 0
    rw [h a List.mem_cons_self, tot_zero fun b hb => h b (List.mem_cons_of_mem _ hb)]
    rfl
theorem tot_le {α : Type} {f g : α → Int} : ∀ {l : List α}, (∀ a ∈ l, f a ≤ g a) → tot f l ≤ tot g l
  | [], _ => Int.le_refl _
  | a :: l, h => by
    have h1 := h a List.mem_cons_self
    have h2 := tot_le fun b hb => h b (List.mem_cons_of_mem _ hb)
    show f a + tot f l ≤ g a + tot g l
    omega
theorem tot_add {α : Type} (f g : α → Int) : ∀ l : List α, tot (fun a => f a + g a) l = tot f l + tot g l
  | [] => rfl
  | a :: l => by
    show f a + g a + tot (fun a => f a + g a) l = f a + tot f l + (g a + tot g l)
    rw [tot_add f g l]
    omega
theorem tot_mul {α : Type} (k : Int) (f : α → Int) : ∀ l : List α, tot (fun a => k * f a) l = k * tot f l
  | [] => (Int.mul_zero k).symm
  | a :: l => by
    show k * f a + tot (fun a => k * f a) l = k * (f a + tot f l)
    rw [tot_mul k f l, Int.mul_add]
/-- what the rounds of one list give -/
def rsl (g : Str → Int) (ts : Ts) (y : Str) : Int := tot (fun t => if t.2.1 = y ∧ t.2.2 = ("any" : Str) then np (g t.1) else 0) ts
def slope (g : Str → Int) (ts : Ts) (y : Str) : Int := g y + rsl g ts y
def falls (g : Str → Int) (ts : Ts) (q : Str × Str) : Bool := decide (q.2 ≠ ("none" : Str)) && decide (slope g ts q.1 < 0)
def someSum (g : Str → Int) (wm : Ws) : Int := tot (fun q => if q.2 = ("some" : Str) then g q.1 else 0) wm
def leastD (g : Str → Int) (c : Int) (wm : Ws) (ts : Ts) : Option Int := if wm.any (falls g ts) = true then none else some (c + someSum g wm)
def oV : Option Int → V
  | none => .non
  | some i => .int i
def vl (w : Str) (n : Int) : Int := if w = ("none" : Str) then 0 else if w = ("any" : Str) then n else if n > 1 then n else 1
def vr (g : Str → Int) (wm : Ws) (n : Int) (t : Tr) : Int := if t.2.2 = ("any" : Str) ∧ g t.1 < 0 then vl (wo wm t.2.1) n - 1 else 0
def atM (g : Str → Int) (wm : Ws) (ts : Ts) (n : Int) : Ps := wm.map (fun q => (q.1, vl q.2 n)) ++ ts.map fun t => (t.1, vr g wm n t)
theorem ev_map {α : Type} (g : Str → Int) (k : α → Str) (v : α → Int) : ∀ l : List α, ev (l.map fun a => (k a, v a)) g = tot (fun a => v a * g (k a)) l
  | [] => rfl
  | a :: l => by
    show v a * g (k a) + ev (l.map fun a => (k a, v a)) g = v a * g (k a) + tot (fun a => v a * g (k a)) l
    rw [ev_map g k v l]
theorem ev_atM (g : Str → Int) (wm : Ws) (ts : Ts) (n : Int) : ev (atM g wm ts n) g = tot (fun q => vl q.2 n * g q.1) wm + tot (fun t => vr g wm n t * g t.1) ts := by
  unfold atM
  rw [ev_app, ev_map g (fun q : Str × Str => q.1), ev_map g (fun t : Tr => t.1)]
theorem wnd {wm : Ws} {ts : Ts} (h : OkD wm ts) : (wm.map (·.1)).Nodup := (List.nodup_append.mp h.nd).1
theorem own_some {wm : Ws} {ts : Ts} (h : OkD wm ts) {t : Tr} (ht : t ∈ ts) : wo wm t.2.1 = "some" := wo_in (wnd h) (h.rnd t ht).2.1
theorem ne_sa : ("some" : Str) ≠ "any" := by decide +kernel
theorem ne_sn : ("some" : Str) ≠ "none" := by decide +kernel
theorem ne_an : ("any" : Str) ≠ "none" := by decide +kernel
theorem ne_as : ("any" : Str) ≠ "some" := by decide +kernel
theorem ne_ns : ("none" : Str) ≠ "some" := by decide +kernel
theorem vl_none (n : Int) : vl "none" n = 0 := if_pos rfl
theorem vl_any (n : Int) : vl "any" n = n := by unfold vl; rw [if_neg ne_an, if_pos rfl]
theorem vl_some (n : Int) : vl "some" n = if n > 1 then n else 1 := by unfold vl; rw [if_neg ne_sn, if_neg ne_sa]
theorem tot_one {P : Prop} [Decidable P] {y : Str} {k : Int} : ∀ {wm : Ws}, (wm.map (·.1)).Nodup → (y, ("some" : Str)) ∈ wm → tot (fun q : Str × Str => if q.2 = ("some" : Str) then (if y = q.1 ∧ P then k else 0) else 0) wm = if P then k else 0
  | [], _, h => by cases h
  | q :: wm, nd, h => by
    rw [List.map_cons, List.nodup_cons] at nd
    show (if q.2 = ("some" : Str) then (if y = q.1 ∧ P then k else 0) else 0) + tot (fun q : Str × Str => if q.2 = ("some" : Str) then (if y = q.1 ∧ P then k else 0) else 0) wm = _
    by_cases e : y = q.1
    · have hq : (y, ("some" : Str)) = q := by
        rcases List.mem_cons.mp h with h | h
        · exact h
        · exact absurd (List.mem_map.mpr ⟨_, h, e⟩) nd.1
      rw [tot_zero (fun a ha => ?_), ← hq, if_pos rfl]
      · by_cases p : P
        · rw [if_pos ⟨rfl, p⟩, if_pos p]
          omega
        · rw [if_neg (fun z => p z.2), if_neg p]
          rfl
      · have : y ≠ a.1 := fun z => nd.1 (List.mem_map.mpr ⟨a, ha, by rw [← z, e]⟩)
        split
        · exact if_neg fun z => this z.1
        · rfl
    · have hm : (y, ("some" : Str)) ∈ wm := (List.mem_cons.mp h).resolve_left fun z => e (by rw [← z])
      have h0 : (if q.2 = ("some" : Str) then (if y = q.1 ∧ P then k else 0) else 0) = 0 := by
        split
        · exact if_neg fun z => e z.1
        · rfl
      rw [h0, tot_one nd.2 hm]
      exact Int.zero_add _
theorem swap {g : Str → Int} {wm : Ws} (nd : (wm.map (·.1)).Nodup) : ∀ {ts : Ts}, (∀ t ∈ ts, (t.2.1, ("some" : Str)) ∈ wm) → tot (fun t : Tr => if t.2.2 = ("any" : Str) then np (g t.1) else 0) ts = tot (fun q : Str × Str => if q.2 = ("some" : Str) then rsl g ts q.1 else 0) wm
  | [], _ => (tot_zero fun q _ => by split <;> rfl).symm
  | t :: ts, h => by
    show (if t.2.2 = ("any" : Str) then np (g t.1) else 0) + tot (fun t : Tr => if t.2.2 = ("any" : Str) then np (g t.1) else 0) ts = _
    rw [swap nd fun u hu => h u (List.mem_cons_of_mem _ hu), ← tot_one (P := t.2.2 = ("any" : Str)) (k := np (g t.1)) nd (h t List.mem_cons_self), ← tot_add]
    refine tot_congr fun q _ => ?_
    by_cases e : q.2 = ("some" : Str)
    · rw [if_pos e, if_pos e, if_pos e]
      rfl
    · rw [if_neg e, if_neg e, if_neg e]
      rfl
theorem rsl_any {g : Str → Int} {wm : Ws} {ts : Ts} (h : OkD wm ts) {q : Str × Str} (hq : q ∈ wm) (e : q.2 ≠ ("some" : Str)) : rsl g ts q.1 = 0 := tot_zero fun t ht => if_neg fun z => e (by
  rw [← wo_in (wnd h) hq, ← z.1]
  exact own_some h ht)
theorem vr_eq {g : Str → Int} {wm : Ws} {ts : Ts} (h : OkD wm ts) (n : Int) {t : Tr} (ht : t ∈ ts) : vr g wm n t * g t.1 = (vl "some" n - 1) * (if t.2.2 = ("any" : Str) then np (g t.1) else 0) := by
  unfold vr
  rw [own_some h ht]
  by_cases a : t.2.2 = ("any" : Str)
  · by_cases b : g t.1 < 0
    · rw [if_pos ⟨a, b⟩, if_pos a]
      unfold np
      rw [if_pos b]
    · rw [if_neg (fun z => b z.2), if_pos a]
      unfold np
      rw [if_neg b]
      omega
  · rw [if_neg (fun z => a z.1), if_neg a]
    omega
theorem ev_atS {g : Str → Int} {wm : Ws} {ts : Ts} (h : OkD wm ts) (n : Int) : ev (atM g wm ts n) g = tot (fun q => vl q.2 n * g q.1 + (vl "some" n - 1) * (if q.2 = ("some" : Str) then rsl g ts q.1 else 0)) wm := by
  rw [ev_atM, tot_congr (fun t ht => vr_eq h n ht), tot_mul, swap (wnd h) fun t ht => (h.rnd t ht).2.1, ← tot_mul, ← tot_add]
theorem at_zero {g : Str → Int} {wm : Ws} {ts : Ts} (h : OkD wm ts) : ev (atM g wm ts 0) g = someSum g wm := by
  rw [ev_atS h]
  refine tot_congr fun q hq => ?_
  rw [show vl "some" 0 - 1 = 0 by rw [vl_some]; rfl, Int.zero_mul, Int.add_zero]
  rcases (h.nam q hq).2 with e | e | e
  · rw [e, vl_any, if_neg ne_as, Int.zero_mul]
  · rw [e, vl_none, if_neg ne_ns, Int.zero_mul]
  · rw [e, vl_some, if_pos rfl, if_neg (by decide), Int.one_mul]
theorem at_ge {g : Str → Int} {wm : Ws} {ts : Ts} (h : OkD wm ts) {n : Int} (hn : 0 ≤ n) (hs : wm.any (falls g ts) = false) : someSum g wm ≤ ev (atM g wm ts n) g := by
  rw [ev_atS h]
  refine tot_le fun q hq => ?_
  have hf := List.any_eq_false.mp hs q hq
  have hsl : q.2 ≠ ("none" : Str) → 0 ≤ g q.1 + rsl g ts q.1 := fun hne => by
    unfold falls slope at hf
    rw [decide_eq_true hne, Bool.true_and, decide_eq_true_eq] at hf
    omega
  rcases (h.nam q hq).2 with e | e | e
  · have h0 := rsl_any (g := g) h hq (by rw [e]; exact ne_as)
    have h1 := hsl (by rw [e]; exact ne_an)
    rw [h0, Int.add_zero] at h1
    rw [e, vl_any, if_neg ne_as, if_neg ne_as, Int.mul_zero, Int.add_zero]
    exact Int.mul_nonneg hn h1
  · rw [e, vl_none, if_neg ne_ns, if_neg ne_ns, Int.mul_zero, Int.zero_mul]
    exact Int.le_refl _
  · have h1 := hsl (by rw [e]; exact ne_sn)
    rw [e, if_pos rfl, if_pos rfl]
    have hv : 0 ≤ vl "some" n - 1 := by
      rw [vl_some]
      split <;> omega
    have h2 := Int.mul_nonneg hv h1
    rw [Int.mul_add] at h2
    have h3 : vl "some" n * g q.1 = (vl "some" n - 1) * g q.1 + g q.1 := by
      rw [Int.sub_mul, Int.one_mul]
      omega
    omega
end Ow

set_option Elab.async false
set_option linter.all false
set_option maxRecDepth 100000
set_option maxHeartbeats 4000000
namespace Ow
open PySem PySem.Spec PyProof.Rows L2
local macro_rules | `(tactic| walk_at "rd") => `(tactic| repeat (first | (refine ⟨_, rfl, ?_⟩) | (refine ⟨_, _, rfl, rfl, ?_⟩) | (refine ⟨rfl, ?_⟩) | (refine ⟨_, _, rfl, ?_⟩) | (refine Or.inl ⟨_, rfl, ?_⟩) | (refine ⟨(by first | (show (0 : Int) < (_ : Int); decide) | exact Or.inl ⟨by decide, by decide⟩ | exact Or.inr ⟨by decide, by decide⟩ | exact ⟨by decide, by decide⟩ | exact ⟨by decide, by decide, by decide⟩), ?_⟩)))
theorem keepN {H : Hp} {p a : Addr} {o u : HO} (hp : H p = none) (h : H a = some u) : upd H p o a = some u := (upd_ne (ne_of_none h hp)).trans h
theorem gName_go {i : Nat} {v : V} {σ : L2.St} {H : Hp} {Q : L2.St → Hp → Prop} (h : Q (σ.set i (some v)) H) : gName i v σ H Q := h
theorem tot_sum : ∀ ns : List Int, (ns.map np).sum = tot np ns
  | [] => rfl
  | n :: ns => by
    rw [List.map_cons, List.sum_cons, tot_sum ns]
    rfl
def RndAt (C : Addr) (H : Hp) (x : Addr) (ts : Ts) : Prop := ∃ dx d l, H x = some (.ins C dx [("_lengths", .ref d), ("_rounds", .ref l)]) ∧ TripsAt H l ts
def spSlope (CD C : Addr) : Sp := fun vs H Q _ => ∃ (x p : Addr) (y : Str) (c : Int) (mF : Ps) (ts : Ts), vs = [.ref x, .ref p, .str y] ∧ RndAt CD H x ts ∧ FormAt C H p c mF ∧ ts.length ≤ 8 ∧ ∀ H', Same H H' → Q (.int (slope (co mF) ts y)) H'
def spLeast (CD C : Addr) : Sp := fun vs H Q _ => ∃ (x p : Addr) (c : Int) (mF : Ps) (wm : Ws) (ts : Ts), vs = [.ref x, .ref p] ∧ DomAt CD H x wm ts ∧ FormAt C H p c mF ∧ wm.length ≤ 8 ∧ ts.length ≤ 8 ∧ ∀ H', Same H H' → Q (oV (leastD (co mF) c wm ts)) H'
section
variable {P : Program} {w : World} {K : PySem.W.Frag} {mg : Str → Option Value} {base : Heap} {C CD : Addr}
abbrev s_DomainDslope : Stmt := inClass (top 23) 3
theorem sc_DomainDslope : FnScope ["self", "form", "name", "steps", "symbol", "owner", "word", "step"] ["self", "form", "name"] (defScope s_DomainDslope) := ⟨rfl, rfl, rfl, by decide +kernel, rfl, by decide +kernel, by decide +kernel⟩
theorem ok_slope {f : Addr} {fd : FuncData} (F : Fun K "_slope" "Domain._slope" s_DomainDslope f fd) (T : Txt mg) (R : DomK K CD) (c_get : OpX.CalG P w K mg base C "__getitem__" 1 (spGet C)) : FnOk P w K mg base CX0 3 f fd ["self", "form", "name"] (spSlope CD C) := by
  refine F.ok sc_DomainDslope (fun vs H Q E h => ?_) (fun cdv A outer s H vs Q E hr h => ?_)
  · obtain ⟨x, p, y, c, mF, ts, rfl, _⟩ := h
    rfl
  · obtain ⟨x, p, y, c, mF, ts, rfl, ⟨dx, d, l, hx, xs, hl, hp⟩, hF, ht8, k⟩ := h
    have hu := hu_of hr
    refine ⟨_, (pss_cons (ps_setLc (i := 3) (own := [("symbol", 4), ("owner", 5), ("word", 6)]) (g := gTup _ 3 (gCons (gName 4) (gCons (gName 5) (gCons (gName 6) (gNil))))) (by rfl) sc_DomainDslope.nd rfl rfl (sw_true rfl rfl rfl (by decide +kernel)) (pi_list (pe_fld (pv 0) rfl)) (blkOk_by (own := [("symbol", 4), ("owner", 5), ("word", 6)]) (N := ["self", "form", "name", "steps", "symbol", "owner", "word", "step"]) (sc := defScope s_DomainDslope) (by decide +kernel)) (fun _ _ _ _ _ => (pg_tup rfl (pgs_cons (pg_name (i := 4) sc_DomainDslope.nd rfl (Or.inl rfl)) (pgs_cons (pg_name (i := 5) sc_DomainDslope.nd rfl (Or.inl rfl)) (pgs_cons (pg_name (i := 6) sc_DomainDslope.nd rfl (Or.inl rfl)) pgs_nil))))) (fun _ _ _ _ _ => (pts_one (PW.pt (pw_and (pt_cmpR op_eq (pv 5) (pv 2) (nomark _)) (pw_and1 (pt_cmpR op_eq (pv 6) pe_str (nomark _))))))) (fun _ _ _ _ _ => (OpX.pe_getC c_get (hr.mono (by decide)) (pv 1) (pv 4))))
      (pss_one (ps_ret (pe_op op_add (OpX.pe_getC c_get (hr.mono (by decide)) (pv 1) (pv 2)) (pe_callB (cr_sum rfl) (by rfl) T.n_sum (by decide +kernel) (pa_cons (pe_lc (own := [("step", 7)]) (g := gName 7) (by rfl) sc_DomainDslope.nd (pi_list (pv 3)) (blkOk_by (own := [("step", 7)]) (N := ["self", "form", "name", "steps", "symbol", "owner", "word", "step"]) (sc := defScope s_DomainDslope) (by decide +kernel)) (fun _ _ _ _ _ => (pg_name (i := 7) sc_DomainDslope.nd rfl (Or.inl rfl))) (fun _ _ _ _ _ => pts_nil) (fun _ _ _ _ _ => (pe_callB (call_min2 rfl) (by rfl) T.n_min (by decide +kernel) (pa_cons (pv 7) (pa_cons pe_int pa_nil))))) pa_nil)))))), ?_⟩
    obtain ⟨⟨dxF, ddF, hxF, hyF⟩, _⟩ := id hF
    walk_at "rd"
    refine ⟨x, CD, dx, _, .ref l, rfl, hx, R.cl, R.n2, rfl, ?_⟩
    refine ⟨l, rfl, ⟨_, SqL.of hl⟩, fun D hD => lc_list (a := l) (xs := xs) (fun i H' => ∃ ns : List Int, H' D = some (.lst (ns.map V.int)) ∧ ns.length ≤ i ∧ tot np ns = rsl (co mF) (ts.take i) y ∧ Same H H') ⟨[], upd_same, Nat.le_refl _, rfl, same_new (fun _ _ e => e) hD⟩ (fun i H' _ ⟨_, _, _, _, s⟩ => SqL.of (s _ _ hl)) ?_ ?_⟩
    · rintro i v H' hi ⟨ns, ha, hnl, hns, S5⟩
      obtain ⟨t, ht, a, rfl, hat⟩ := paired_at hp hi
      have hi8 : i < 8 := by
        have := (List.getElem?_eq_some_iff.mp ht).1
        omega
      have ft : rsl (co mF) (ts.take (i + 1)) y = rsl (co mF) (ts.take i) y + (if t.2.1 = y ∧ t.2.2 = ("any" : Str) then np (co mF t.1) else 0) := by
        unfold rsl
        rw [List.take_succ, ht, tot_app]
        show _ + (_ + 0) = _
        rw [Int.add_zero]
      refine ⟨a, _, rfl, SqT.of (S5 _ _ hat), rfl, ?_⟩
      refine ⟨_, _, rfl, ⟨_, _, rfl, ⟨_, _, rfl, rfl, ?_⟩⟩⟩
      refine ⟨rfl, ?_⟩
      walk_at "rd"
      by_cases h1 : t.2.1 = y
      · by_cases h2 : t.2.2 = ("any" : Str)
        · rw [if_pos ⟨h1, h2⟩] at ft
          refine ite2 (fun _ => ?_) (fun h => absurd (decide_eq_true (show V.str t.2.1 = V.str y by rw [h1])) h)
          walk_at "rd"
          refine ite2 (fun _ => ?_) (fun h => absurd (decide_eq_true (show V.str t.2.2 = V.str "any" by rw [h2])) h)
          walk_at "rd"
          refine ⟨p, dxF, _, rfl, S5 _ _ hxF, ?_⟩
          refine ⟨p, c, mF, t.1, rfl, hF.same S5, ?_⟩
          refine ⟨_, ha, ?_, ns ++ [co mF t.1], by rw [upd_same, List.map_append]; rfl, by rw [List.length_append]; simp only [List.length_cons, List.length_nil]; omega, ?_, same_over S5 hD⟩
          · rw [List.length_map]
            exact Nat.lt_of_lt_of_le (m := 64) (by omega) (by decide)
          · rw [tot_app, hns, ft]
            show _ + (_ + 0) = _
            rw [Int.add_zero]
        · rw [if_neg (fun z => h2 z.2), Int.add_zero] at ft
          refine ite2 (fun _ => ?_) (fun h => absurd (decide_eq_true (show V.str t.2.1 = V.str y by rw [h1])) h)
          walk_at "rd"
          refine ite2 (fun h => absurd (V.str.inj (of_decide_eq_true h)) h2) (fun _ => ?_)
          exact ⟨ns, ha, by omega, by rw [ft, hns], S5⟩
      · rw [if_neg (fun z => h1 z.1), Int.add_zero] at ft
        refine ite2 (fun h => absurd (V.str.inj (of_decide_eq_true h)) h1) (fun _ => ?_)
        exact ⟨ns, ha, by omega, by rw [ft, hns], S5⟩
    · rintro H1 ⟨ns, ha, hnl, hns, S1⟩
      have hxl := paired_len hp
      rw [hxl, List.take_length] at hns
      rw [hxl] at hnl
      refine gName_go ?_
      walk_at "rd"
      refine ⟨p, dxF, _, rfl, S1 _ _ hxF, ?_⟩
      refine ⟨p, c, mF, y, rfl, hF.same S1, ?_⟩
      walk_at "rd"
      refine ⟨⟨_, SqL.of ha⟩, fun E2 hE2 => lc_list (a := D) (xs := ns.map V.int) (fun i H' => H' E2 = some (.lst (((ns.take i).map np).map V.int)) ∧ Same H1 H') ⟨upd_same, same_new (fun _ _ e => e) hE2⟩ (fun i H' _ h => SqL.of (h.2 _ _ ha)) ?_ ?_⟩
      · rintro i v H' hi ⟨hacc, S5⟩
        obtain ⟨z, hz, rfl⟩ : ∃ z : Int, ns[i]? = some z ∧ v = .int z := by
          rw [List.getElem?_map] at hi
          cases q : ns[i]? with
          | none => rw [q] at hi; cases hi
          | some z => rw [q] at hi; cases hi; exact ⟨z, rfl, rfl⟩
        refine ⟨rfl, ?_⟩
        walk_at "rd"
        rw [show (if 0 < z then 0 else z) = np z by unfold np; split <;> split <;> omega]
        refine ⟨_, hacc, ?_, ?_, same_over S5 hE2⟩
        · rw [List.length_map, List.length_map, List.length_take]
          exact Nat.lt_of_lt_of_le (m := 64) (by omega) (by decide)
        · rw [upd_same, List.take_succ, hz, List.map_append, List.map_append]
          rfl
      · rintro H2 ⟨hacc, S5⟩
        rw [List.length_map, List.take_length] at hacc
        walk_at "rd"
        refine ⟨E2, ns.map np, rfl, SqL.of hacc, ?_⟩
        rw [tot_sum, hns]
        walk_at "rd"
        exact k H2 (same_trans S1 S5)
abbrev s_Domain_least : Stmt := inClass (top 23) 4
theorem sc_Domain_least : FnScope ["self", "form", "total", "name", "word"] ["self", "form"] (defScope s_Domain_least) := ⟨rfl, rfl, rfl, by decide +kernel, rfl, by decide +kernel, by decide +kernel⟩
theorem ok_least {f : Addr} {fd : FuncData} (F : Fun K "least" "Domain.least" s_Domain_least f fd) (T : Txt mg) (R : DomK K CD) (RF : FormK K C) (c_get : OpX.CalG P w K mg base C "__getitem__" 1 (spGet C)) (c_dslope : CalM P w K mg base CD "_slope" 3 (spSlope CD C)) : FnOk P w K mg base CX0 4 f fd ["self", "form"] (spLeast CD C) := by
  refine F.ok sc_Domain_least (fun vs H Q E h => ?_) (fun cdv A outer s H vs Q E hr h => ?_)
  · obtain ⟨x, p, c, mF, wm, ts, rfl, _⟩ := h
    rfl
  · obtain ⟨x, p, c, mF, wm, ts, rfl, ⟨dx, d, l, hx, hW, hT⟩, hF, hw8, ht8, k⟩ := h
    have hu := hu_of hr
    refine ⟨_, (pss_cons (ps_set (i := 2) sc_Domain_least.nd rfl (Or.inl rfl) (pe_fld (pv 1) rfl))
      (pss_cons (ps_lock (ps_for PassesOwn.never rfl (pi_items (pe_fld (pv 0) rfl)) (pg_tup rfl (pgs_cons (pg_name (i := 3) sc_Domain_least.nd rfl (Or.inl rfl)) (pgs_cons (pg_name (i := 4) sc_Domain_least.nd rfl (Or.inl rfl)) pgs_nil)))
      (pss_cons (ps_if (PW.pt (pw_and (pt_cmpR op_ne (pv 4) pe_str (nomark _)) (pw_and1 (pt_cmpR op_lt (pe_calM c_dslope (hr.mono (by decide)) (pv 0) (pa_cons (pv 1) (pa_cons (pv 3) pa_nil))) pe_int (nomark _))))) (pss_one (ps_ret pe_non)) pss_nil)
      (pss_one (ps_if (pt_cmpR op_eq (pv 4) pe_str (nomark _)) (pss_one (ps_set (i := 2) sc_Domain_least.nd rfl (Or.inl rfl) (pe_op op_add (pv 2) (OpX.pe_getC c_get (hr.mono (by decide)) (pv 1) (pv 3))))) pss_nil)))))
      (pss_one (ps_ret (pv 2))))), ?_⟩
    obtain ⟨⟨dxF, ddF, hxF, hyF⟩, _⟩ := id hF
    walk_at "rd"
    refine ⟨p, C, dxF, _, .int c, rfl, hxF, RF.cl, RF.n1, rfl, ?_⟩
    refine gName_go ?_
    walk_at "rd"
    refine ⟨d, .dK (kvT wm), hW.at_, True.intro, fun od => ?_⟩
    have xd : x ≠ d := fun z => by rw [z, hW.at_] at hx; cases hx
    have Sf : ∀ {a : Addr} {o : HO}, a ≠ d → H a = some o → upd H d (.frz od (.dK (kvT wm))) a = some o := fun n e => (upd_ne n).trans e
    walk_at "rd"
    refine ⟨x, CD, dx, _, .ref d, rfl, Sf xd hx, R.cl, R.n1, rfl, ?_⟩
    have hFz : wm ≠ [] → FormAt C (upd H d (.frz od (.dK (kvT wm)))) p c mF := fun hne => by
      obtain ⟨⟨a1, a2, a3, a4⟩, a5⟩ := id hF
      have pd : p ≠ d := fun z => by rw [z, hW.at_] at a3; cases a3
      have ad : a2 ≠ d := fun z => by
        have e := a4.at_
        rw [z, hW.at_] at e
        have e := HO.dK.inj (Option.some.inj e)
        cases wm with
        | nil => exact hne rfl
        | cons q wm =>
          cases mF with
          | nil => cases e
          | cons r mF =>
            have := congrArg (fun p : Key × V => p.2) (List.cons.inj e).1
            exact nomatch this
      exact ⟨⟨a1, a2, Sf pd a3, ⟨Sf ad a4.at_, a4.nd, a4.sym⟩⟩, a5⟩
    have hTz : TripsAt (upd H d (.frz od (.dK (kvT wm)))) l ts := by
      obtain ⟨xs, e1, e2⟩ := id hT
      refine ⟨xs, Sf (fun z => by rw [z, hW.at_] at e1; cases e1) e1, paired_map (fun _ _ q => ?_) e2⟩
      obtain ⟨a, e, q⟩ := q
      exact ⟨a, e, Sf (fun z => by rw [z, hW.at_] at q; cases q) q⟩
    have hRz : RndAt CD (upd H d (.frz od (.dK (kvT wm)))) x ts := ⟨dx, d, l, Sf xd hx, hTz⟩
    refine ⟨d, od, kvT wm, rfl, upd_same, for_it walk_items (fun i σ H' => ∃ o3 o4 : Option V, σ = [some (.ref x), some (.ref p), some (.int (c + someSum (co mF) (wm.take i))), o3, o4] ∧ (wm.take i).any (falls (co mF) ts) = false ∧ Same (upd H d (.frz od (.dK (kvT wm)))) H') ⟨none, none, by rw [show c + someSum (co mF) (wm.take 0) = c from Int.add_zero c]; rfl, rfl, fun _ _ e => e⟩ (fun i σ H2 _ ⟨_, _, _, _, s⟩ => s _ _ upd_same) ?_ ?_⟩
    · rintro i vx σ H1 _ hi ⟨o3, o4, rfl, hok, S6⟩ ⟨t, kx, vx, rfl, ht, rfl, g1, g2⟩
      rw [kvT_len] at hi
      obtain ⟨⟨y, z⟩, hq, rfl, rfl⟩ : ∃ q, wm[i]? = some q ∧ kx = V.str q.1 ∧ vx = V.str q.2 := by
        have g1 : (kvT wm)[i]?.map (fun kv => kV kv.1) = some kx := g1
        have g2 : (kvT wm)[i]?.map Prod.snd = some vx := g2
        cases e : (kvT wm)[i]? with
        | none => rw [e] at g1; cases g1
        | some kv =>
          obtain ⟨k0, v0⟩ := kv
          obtain ⟨q, hq, rfl, rfl⟩ := kvT_at e
          rw [e] at g1 g2
          exact ⟨q, hq, (Option.some.inj g1).symm, (Option.some.inj g2).symm⟩
      have hne : wm ≠ [] := fun e => by rw [e] at hi; cases hi
      have S7 := same_new (o := .tup [.str y, .str z]) S6 ht
      have hF7 := (hFz hne).same S7
      have hR7 : RndAt CD (upd H1 t (.tup [.str y, .str z])) x ts := ⟨dx, d, l, S7 _ _ (Sf xd hx), hTz.same S7⟩
      obtain ⟨⟨dx7, dd7, hx7, hy7⟩, _⟩ := id hF7
      have tk : wm.take (i + 1) = wm.take i ++ [(y, z)] := by rw [List.take_succ, hq]; rfl
      have hsum : someSum (co mF) (wm.take (i + 1)) = someSum (co mF) (wm.take i) + (if z = ("some" : Str) then co mF y else 0) := by
        unfold someSum
        rw [tk, tot_app]
        show _ + (_ + 0) = _
        rw [Int.add_zero]
      have hany : (wm.take (i + 1)).any (falls (co mF) ts) = falls (co mF) ts (y, z) := by
        rw [tk, List.any_append, hok, Bool.false_or, List.any_cons, List.any_nil, Bool.or_false]
      refine ⟨t, _, rfl, SqT.of upd_same, rfl, ?_⟩
      refine ⟨_, _, rfl, ⟨_, _, rfl, rfl, ?_⟩⟩
      walk_at "rd"
      by_cases hzn : z = ("none" : Str)
      · have hf : falls (co mF) ts (y, z) = false := by
          unfold falls
          rw [decide_eq_false (fun h => h hzn)]
          rfl
        have hzs : z ≠ ("some" : Str) := by rw [hzn]; exact ne_ns
        rw [if_neg hzs, Int.add_zero] at hsum
        refine ite2 (fun h => ?_) (fun _ => ?_)
        · rw [decide_eq_true (show V.str (y, z).2 = V.str "none" by rw [hzn])] at h
          cases h
        walk_at "rd"
        refine ite2 (fun h => absurd (V.str.inj (of_decide_eq_true h)) hzs) (fun _ => ?_)
        exact ⟨_, _, by rw [hsum]; rfl, hany.trans hf, S7⟩
      · refine ite2 (fun _ => ?_) (fun h => absurd (show (!decide (V.str (y, z).2 = V.str "none")) = true from by rw [decide_eq_false (fun h => hzn (V.str.inj h))]; rfl) h)
        walk_at "rd"
        refine ⟨x, dx, _, rfl, S7 _ _ (Sf xd hx), rfl, ?_⟩
        walk_at "rd"
        refine ⟨x, p, y, c, mF, ts, rfl, hR7, hF7, ht8, fun H8 S8 => ?_⟩
        walk_at "rd"
        by_cases hs : slope (co mF) ts y < 0
        · refine ite2 (fun _ => ?_) (fun h => absurd (decide_eq_true hs) h)
          have hf : falls (co mF) ts (y, z) = true := by
            unfold falls
            rw [decide_eq_true (show (y, z).2 ≠ ("none" : Str) from hzn), decide_eq_true hs]
            rfl
          have e : oV (leastD (co mF) c wm ts) = .non := by
            unfold leastD
            rw [if_pos (List.any_eq_true.mpr ⟨(y, z), List.mem_of_getElem? hq, hf⟩)]
            rfl
          have S78 := same_trans S7 S8
          have := k _ (same_unlock hW.at_ S78)
          rw [e] at this
          exact ⟨S78 _ _ upd_same, this⟩
        · have hf : falls (co mF) ts (y, z) = false := by
            unfold falls
            rw [decide_eq_false hs, Bool.and_false]
          refine ite2 (fun h => absurd (of_decide_eq_true h) hs) (fun _ => ?_)
          walk_at "rd"
          by_cases hzs : z = ("some" : Str)
          · rw [if_pos hzs] at hsum
            refine ite2 (fun _ => ?_) (fun h => absurd (decide_eq_true (show V.str (y, z).2 = V.str "some" by rw [hzs])) h)
            walk_at "rd"
            refine ⟨p, dx7, _, rfl, S8 _ _ hx7, ?_⟩
            refine ⟨p, c, mF, y, rfl, hF7.same S8, ?_⟩
            walk_at "rd"
            exact ⟨_, _, by rw [hsum, ← Int.add_assoc]; rfl, hany.trans hf, same_trans S7 S8⟩
          · rw [if_neg hzs, Int.add_zero] at hsum
            refine ite2 (fun h => absurd (V.str.inj (of_decide_eq_true h)) hzs) (fun _ => ?_)
            exact ⟨_, _, by rw [hsum]; rfl, hany.trans hf, same_trans S7 S8⟩
    · rintro σ H1 ⟨o3, o4, rfl, hok, S6⟩
      rw [kvT_len, List.take_length] at hok
      refine ⟨S6 _ _ upd_same, ?_⟩
      have SU := same_unlock hW.at_ S6
      rw [kvT_len, List.take_length]
      walk_at "rd"
      have e : oV (leastD (co mF) c wm ts) = .int (c + someSum (co mF) wm) := by
        unfold leastD
        rw [hok]
        rfl
      have := k _ SU
      rw [e] at this
      exact this
abbrev s_Domain_greatest : Stmt := inClass (top 23) 5
theorem sc_Domain_greatest : FnScope ["self", "form", "negated"] ["self", "form"] (defScope s_Domain_greatest) := ⟨rfl, rfl, rfl, by decide +kernel, rfl, by decide +kernel, by decide +kernel⟩
def spGreatest (CD C : Addr) : Sp := fun vs H Q _ => ∃ (x p : Addr) (c : Int) (mF : Ps) (wm : Ws) (ts : Ts), vs = [.ref x, .ref p] ∧ DomAt CD H x wm ts ∧ FormAt C H p c mF ∧ mF.length < 30 ∧ wm.length ≤ 8 ∧ ts.length ≤ 8 ∧ ∀ H', Same H H' → Q (oV ((leastD (fun s => -co mF s) (-c) wm ts).map fun i => -i)) H'
theorem ok_greatest {f : Addr} {fd : FuncData} (F : Fun K "greatest" "Domain.greatest" s_Domain_greatest f fd) (T : Txt mg) (R : DomK K CD) (RF : FormK K C) (c_neg : CalU P w K mg base C 7 (spNeg C)) (c_dleast : CalM P w K mg base CD "least" 4 (spLeast CD C)) : FnOk P w K mg base CX0 8 f fd ["self", "form"] (spGreatest CD C) := by
  refine F.ok sc_Domain_greatest (fun vs H Q E h => ?_) (fun cdv A outer s H vs Q E hr h => ?_)
  · obtain ⟨x, p, c, mF, wm, ts, rfl, _⟩ := h
    rfl
  · obtain ⟨x, p, c, mF, wm, ts, rfl, hD, hF, hm, hw8, ht8, k⟩ := h
    have hu := hu_of hr
    refine ⟨_, (pss_cons (ps_set (i := 2) sc_Domain_greatest.nd rfl (Or.inl rfl) (pe_calM c_dleast (hr.mono (by decide)) (pv 0) (pa_cons (pe_un (un_calU c_neg (hr.mono (by decide))) (pv 1)) pa_nil)))
      (pss_cons (ps_if (pt_cmpR op_isN (pv 2) pe_non (nomark _)) (pss_one (ps_ret pe_non)) pss_nil)
      (pss_one (ps_ret (pe_un un_neg (pv 2)))))), ?_⟩
    obtain ⟨dx, d, l, hx, hW, hT⟩ := id hD
    obtain ⟨⟨dxF, ddF, hxF, hyF⟩, _⟩ := id hF
    walk_at "rd"
    refine ⟨x, dx, _, rfl, hx, rfl, ?_⟩
    walk_at "rd"
    refine ⟨p, dxF, _, rfl, hxF, ?_⟩
    refine ⟨p, c, mF, rfl, hF, hm, fun p2 m2 H1 hp2 hF2 hco hl S1 => ?_⟩
    refine ⟨x, p2, -c, m2, wm, ts, rfl, hD.same S1, hF2, hw8, ht8, fun H2 S2 => ?_⟩
    rw [show co m2 = fun s => -co mF s from funext hco]
    have k := k H2 (same_trans S1 S2)
    cases hL : leastD (fun s => -co mF s) (-c) wm ts with
    | none =>
      rw [hL] at k
      refine gName_go ?_
      walk_at "rd"
      exact k
    | some i =>
      rw [hL] at k
      refine gName_go ?_
      walk_at "rd"
      exact k
abbrev s_law_slope : Stmt := top 36
theorem sc_law_slope : FnScope ["lengths", "rounds", "numbers", "text", "slope", "symbol", "owner", "word"] ["lengths", "rounds", "numbers", "text"] (defScope s_law_slope) := ⟨rfl, rfl, rfl, by decide +kernel, rfl, by decide +kernel, by decide +kernel⟩
def spLSlope : Sp := fun vs H Q _ => ∃ (d l n : Addr) (y : Str) (wm : Ws) (ts : Ts) (m : Ps), vs = [.ref d, .ref l, .ref n, .str y] ∧ Rd H d (.dK (kvT wm)) ∧ TripsAt H l ts ∧ DictAt H n m ∧ y ∈ wm.map (·.1) ∧ ts.length ≤ 8 ∧ Q (.int (if wo wm y = ("none" : Str) then 0 else slope (co m) ts y)) H
theorem ok_lslope {f : Addr} {fd : FuncData} (F : Fun K "_law_slope" "_law_slope" s_law_slope f fd) (T : Txt mg) : FnOk P w K mg base CX0 1 f fd ["lengths", "rounds", "numbers", "text"] spLSlope := by
  refine F.ok sc_law_slope (fun vs H Q E h => ?_) (fun cdv A outer s H vs Q E hr h => ?_)
  · obtain ⟨d, l, n, y, wm, ts, m, rfl, _⟩ := h
    rfl
  · obtain ⟨d, l, n, y, wm, ts, m, rfl, hR, ⟨xs, hl, hp⟩, hD, hy, ht8, k⟩ := h
    have hu := hu_of hr
    refine ⟨_, (pss_cons (ps_set (i := 4) sc_law_slope.nd rfl (Or.inl rfl) (pe_dget2 hu (pv 2) (pv 3) pe_int ⟨rfl, rfl, rfl, rfl⟩))
      (pss_cons (ps_for PassesOwn.never rfl (pi_list (pv 1)) (pg_tup rfl (pgs_cons (pg_name (i := 5) sc_law_slope.nd rfl (Or.inl rfl)) (pgs_cons (pg_name (i := 6) sc_law_slope.nd rfl (Or.inl rfl)) (pgs_cons (pg_name (i := 7) sc_law_slope.nd rfl (Or.inl rfl)) pgs_nil))))
      (pss_one (ps_if (PW.pt (pw_and (pt_cmpR op_eq (pv 6) (pv 3) (nomark _)) (pw_and1 (pt_cmpR op_eq (pv 7) pe_str (nomark _))))) (pss_one (ps_set (i := 4) sc_law_slope.nd rfl (Or.inl rfl) (pe_op op_add (pv 4) (pe_callB (call_min2 rfl) (by rfl) T.n_min (by decide +kernel) (pa_cons pe_int (pa_cons (pe_dget2 hu (pv 2) (pv 5) pe_int ⟨rfl, rfl, rfl, rfl⟩) pa_nil)))))) pss_nil)))
      (pss_one (ps_ret (pe_ifExp (pt_cmpR op_eq (pe_dget hu (pv 0) (pv 3) (fun _ _ => rfl)) pe_str (nomark _)) pe_int (pv 4)))))), ?_⟩
    walk_at "rd"
    refine ⟨.inl ⟨_, .inl hD.at_⟩, ?_⟩
    walk_at "rd"
    refine ⟨_, DGet.k (k := Sum.inr y) hD.at_, ?_⟩
    rw [kvI_val m y hD.nd]
    refine gName_go ?_
    walk_at "rd"
    have rz : ∀ {i : Nat} {t : Tr}, ts[i]? = some t → rsl (co m) (ts.take (i + 1)) y = rsl (co m) (ts.take i) y + (if t.2.1 = y ∧ t.2.2 = ("any" : Str) then np (co m t.1) else 0) := fun {i t} ht => by
      unfold rsl
      rw [List.take_succ, ht, tot_app]
      show _ + (_ + 0) = _
      rw [Int.add_zero]
    refine ⟨⟨_, SqL.of hl⟩, for_list (a := l) (xs := xs) (fun i σ H' => ∃ o5 o6 o7 : Option V, σ = [some (.ref d), some (.ref l), some (.ref n), some (.str y), some (.int (co m y + rsl (co m) (ts.take i) y)), o5, o6, o7] ∧ H' = H) ⟨none, none, none, by rw [show co m y + rsl (co m) (ts.take 0) y = co m y from Int.add_zero _]; rfl, rfl⟩ (fun i σ H' _ ⟨_, _, _, _, e⟩ => by rw [e]; exact SqL.of hl) ?_ ?_⟩
    · rintro i v σ H' hi ⟨o5, o6, o7, rfl, rfl⟩
      obtain ⟨t, ht, a, rfl, hat⟩ := paired_at hp hi
      have rz := rz ht
      refine ⟨a, _, rfl, SqT.of hat, rfl, ?_⟩
      walk_at "rd"
      by_cases h1 : t.2.1 = y
      · by_cases h2 : t.2.2 = ("any" : Str)
        · rw [if_pos ⟨h1, h2⟩] at rz
          refine ite2 (fun _ => ?_) (fun h => absurd (decide_eq_true (show V.str t.2.1 = V.str y by rw [h1])) h)
          walk_at "rd"
          refine ite2 (fun _ => ?_) (fun h => absurd (decide_eq_true (show V.str t.2.2 = V.str "any" by rw [h2])) h)
          walk_at "rd"
          refine ⟨.inl ⟨_, .inl hD.at_⟩, ?_⟩
          walk_at "rd"
          refine ⟨_, DGet.k (k := Sum.inr t.1) hD.at_, ?_⟩
          rw [kvI_val m t.1 hD.nd]
          walk_at "rd"
          refine ⟨_, _, _, by rw [rz, ← Int.add_assoc]; rfl, rfl⟩
        · rw [if_neg (fun z => h2 z.2), Int.add_zero] at rz
          refine ite2 (fun _ => ?_) (fun h => absurd (decide_eq_true (show V.str t.2.1 = V.str y by rw [h1])) h)
          walk_at "rd"
          refine ite2 (fun h => absurd (V.str.inj (of_decide_eq_true h)) h2) (fun _ => ?_)
          exact ⟨_, _, _, by rw [rz]; rfl, rfl⟩
      · rw [if_neg (fun z => h1 z.1), Int.add_zero] at rz
        refine ite2 (fun h => absurd (V.str.inj (of_decide_eq_true h)) h1) (fun _ => ?_)
        exact ⟨_, _, _, by rw [rz]; rfl, rfl⟩
    · rintro σ H' ⟨o5, o6, o7, rfl, rfl⟩
      rw [paired_len hp, List.take_length]
      walk_at "rd"
      refine ⟨d, _, rfl, wget hR hy, ?_⟩
      walk_at "rd"
      refine ite2 (fun h => ?_) (fun h => ?_)
      · rw [if_pos (V.str.inj (of_decide_eq_true h))] at k
        walk_at "rd"
        exact k
      · rw [if_neg (fun z => h (decide_eq_true (congrArg V.str z)))] at k
        walk_at "rd"
        exact k
abbrev s_law_total : Stmt := top 35
theorem sc_law_total : FnScope ["constant", "numbers", "values", "total", "symbol"] ["constant", "numbers", "values"] (defScope s_law_total) := ⟨rfl, rfl, rfl, by decide +kernel, rfl, by decide +kernel, by decide +kernel⟩
def spTotal : Sp := fun vs H Q _ => ∃ (c : Int) (n v : Addr) (m M : Ps), vs = [.int c, .ref n, .ref v] ∧ v ≠ n ∧ DictAt H n m ∧ DictAt H v M ∧ (∀ s, MulOk (co m s) (co M s)) ∧ ∀ H', Same H H' → Q (.int (c + ev M (co m))) H'
theorem ok_total {f : Addr} {fd : FuncData} (F : Fun K "_law_total" "_law_total" s_law_total f fd) (T : Txt mg) : FnOk P w K mg base CX0 1 f fd ["constant", "numbers", "values"] spTotal := by
  refine F.ok sc_law_total (fun vs H Q E h => ?_) (fun cdv A outer s H vs Q E hr h => ?_)
  · obtain ⟨c, n, v, m, M, rfl, _⟩ := h
    rfl
  · obtain ⟨c, n, v, m, M, rfl, nv, h1, h2, hmk, k⟩ := h
    have hu := hu_of hr
    refine ⟨_, (pss_cons (ps_set (i := 3) sc_law_total.nd rfl (Or.inl rfl) (pv 0))
      (pss_cons (ps_lock (ps_for PassesOwn.never rfl (pi_keys (pv 2)) (pg_name (i := 4) sc_law_total.nd rfl (Or.inl rfl))
      (pss_one (ps_set (i := 3) sc_law_total.nd rfl (Or.inl rfl) (pe_op op_add (pv 3) (pe_op (op_or op_mul op_mulW) (pe_dget2 hu (pv 1) (pv 4) pe_int ⟨rfl, rfl, rfl, rfl⟩) (pe_dget hu (pv 2) (pv 4) (fun _ _ => rfl))))))))
      (pss_one (ps_ret (pv 3))))), ?_⟩
    walk_at "rd"
    refine ⟨v, _, h2.at_, True.intro, fun oa => ?_⟩
    refine ⟨_, rfl, v, oa, rfl, .inl ⟨kvI M, upd_same, for_it walk_keys (fun i σ H' => ∃ o : Option V, σ = [some (.int c), some (.ref n), some (.ref v), some (.int (c + ev (M.take i) (co m))), o] ∧ Same (upd H v (.frz oa (.dK (kvI M)))) H')
      ⟨none, by rw [show c + ev (M.take 0) (co m) = c from Int.add_zero c]; rfl, fun _ _ e => e⟩ (fun i σ H' _ ⟨_, _, s5⟩ => s5 _ _ upd_same) ?_ ?_⟩⟩
    · rintro i x σ _ H2 hi ⟨o, rfl, S7⟩ ⟨rfl, kk, v0, hk, rfl⟩
      obtain ⟨⟨y, z⟩, hq, rfl, rfl⟩ := kvI_at hk
      walk_at "rd"
      have hDat : H2 n = some (.dK (kvI m)) := S7 _ _ ((upd_ne nv.symm).trans h1.at_)
      refine ⟨.inl ⟨_, .inl hDat⟩, ?_⟩
      walk_at "rd"
      refine ⟨_, DGet.k (k := Sum.inr y) hDat, ?_⟩
      rw [kvI_val m y h1.nd]
      walk_at "rd"
      have hg : DGet H2 v (.str y) (some (.int (co M y))) := dget_r (.inr ⟨oa, S7 _ _ upd_same⟩) h2.nd (List.mem_map.mpr ⟨_, List.mem_of_getElem? hq, rfl⟩)
      refine ⟨v, _, rfl, hg, ?_⟩
      have hz : co M y = z := co_in h2.nd (List.mem_of_getElem? hq)
      refine (fun q => (hmk y).elim (fun h => .inl ⟨co m y, co M y, rfl, rfl, h, q⟩) (fun h => .inr ⟨co m y, co M y, rfl, rfl, h, q⟩)) ?_
      walk_at "rd"
      refine ⟨some (.str y), ?_, S7⟩
      rw [take_snoc hq, ev_snoc, ← hz, ← Int.add_assoc, Int.mul_comm (co M y)]
      rfl
    · rintro σ H2 ⟨o, rfl, S7⟩
      rw [kvI_len, List.take_length]
      refine ⟨S7 _ _ upd_same, ?_⟩
      walk_at "rd"
      exact k _ (same_unlock h2.at_ S7)
abbrev s_law_at : Stmt := top 34
theorem sc_law_at : FnScope ["lengths", "rounds", "numbers", "size", "found", "text", "symbol", "owner", "word", "is_last"] ["lengths", "rounds", "numbers", "size"] (defScope s_law_at) := ⟨rfl, rfl, rfl, by decide +kernel, rfl, by decide +kernel, by decide +kernel⟩
def spAt : Sp := fun vs H Q _ => ∃ (d l n : Addr) (size : Int) (wm : Ws) (ts : Ts) (m : Ps), vs = [.ref d, .ref l, .ref n, .int size] ∧ WAt H d wm ∧ TripsAt H l ts ∧ OkD wm ts ∧ DictAt H n m ∧ ∀ v H', H v = none → DictAt H' v (atM (co m) wm ts size) → Same H H' → Q (.ref v) H'
theorem ok_at {f : Addr} {fd : FuncData} (F : Fun K "_law_at" "_law_at" s_law_at f fd) (T : Txt mg) : FnOk P w K mg base CX0 1 f fd ["lengths", "rounds", "numbers", "size"] spAt := by
  refine F.ok sc_law_at (fun vs H Q E h => ?_) (fun cdv A outer s H vs Q E hr h => ?_)
  · obtain ⟨d, l, n, size, wm, ts, m, rfl, _⟩ := h
    rfl
  · obtain ⟨d, l, n, size, wm, ts, m, rfl, hW, hT, hO, hN, k⟩ := h
    have hu := hu_of hr
    refine ⟨_, (pss_cons (ps_set (i := 4) sc_law_at.nd rfl (Or.inl rfl) pe_dnewK)
      (pss_cons (ps_lock (ps_for PassesOwn.never rfl (pi_keys (pv 0)) (pg_name (i := 5) sc_law_at.nd rfl (Or.inl rfl))
      (pss_one (ps_dput hu (pv 4) (pv 5) (pe_dget hu (pe_disp (pps_cons pe_str pe_int (pps_cons pe_str (pv 3) (pps_cons pe_str (pe_callB (call_max2 rfl) (by rfl) T.n_max (by decide +kernel) (pa_cons pe_int (pa_cons (pv 3) pa_nil))) pps_nil))) (by rfl) (by rfl) (fun z => by cases z) (by decide)) (pe_dget hu (pv 0) (pv 5) (fun _ _ => rfl)) (fun _ _ => rfl)) rfl))))
      (pss_cons (ps_for PassesOwn.never rfl (pi_list (pv 1)) (pg_tup rfl (pgs_cons (pg_name (i := 6) sc_law_at.nd rfl (Or.inl rfl)) (pgs_cons (pg_name (i := 7) sc_law_at.nd rfl (Or.inl rfl)) (pgs_cons (pg_name (i := 8) sc_law_at.nd rfl (Or.inl rfl)) pgs_nil))))
      (pss_cons (ps_set (i := 9) sc_law_at.nd rfl (Or.inl rfl) (pe_and (pe_cmpR op_eq (pv 8) pe_str (nomark _)) (pe_one (pe_cmpR op_lt (pe_dget2 hu (pv 2) (pv 6) pe_int ⟨rfl, rfl, rfl, rfl⟩) pe_int (nomark _)))))
      (pss_one (ps_dput hu (pv 4) (pv 6) (pe_ifExp (pt_val (pv 9)) (pe_op op_sub (pe_dget hu (pv 4) (pv 7) (fun _ _ => rfl)) pe_int) pe_int) rfl))))
      (pss_one (ps_ret (pv 4)))))), ?_⟩
    have f1 := hO.few.1
    have f2 := hO.few.2
    refine fun f hf => ?_
    have df : d ≠ f := fun z => by rw [← z, hW.at_] at hf; cases hf
    have S0 : Same H (upd H f (.dK [])) := same_new (fun _ _ e => e) hf
    walk_at "rd"
    refine ⟨d, .dK (kvT wm), S0 _ _ hW.at_, True.intro, fun od => ?_⟩
    walk_at "rd"
    have D0 : DictAt (upd (upd H f (.dK [])) d (.frz od (.dK (kvT wm)))) f [] := ⟨(upd_ne df.symm).trans upd_same, List.nodup_nil, fun q h => (by cases h)⟩
    have hfl : upd H d (.frz od (.dK (kvT wm))) f = none := (upd_ne df.symm).trans hf
    have Z0 : Same (upd H d (.frz od (.dK (kvT wm)))) (upd (upd H f (.dK [])) d (.frz od (.dK (kvT wm)))) := fun a u e => by
      by_cases z : a = d
      · subst z
        rw [upd_same] at e ⊢
        exact e
      · rw [upd_ne z] at e ⊢
        exact S0 _ _ e
    refine ⟨d, od, rfl, .inl ⟨kvT wm, upd_same, for_it walk_keys (fun i σ H' => ∃ o5 : Option V, σ = [some (.ref d), some (.ref l), some (.ref n), some (.int size), some (.ref f), o5, none, none, none, none] ∧ DictAt H' f ((wm.take i).map fun q => (q.1, vl q.2 size)) ∧ Same (upd H d (.frz od (.dK (kvT wm)))) H') ⟨none, rfl, D0, Z0⟩ (fun i σ H' _ ⟨_, _, _, s5⟩ => s5 _ _ upd_same) ?_ ?_⟩⟩
    · rintro i x σ H0 H1 hi ⟨o5, rfl, hD, S1⟩ ⟨rfl, k0, v0, hkv, rfl⟩
      rw [kvT_len] at hi
      obtain ⟨⟨y, w0⟩, hq', rfl, rfl⟩ := kvT_at hkv
      have hqm := List.mem_of_getElem? hq'
      have hyw : y ∈ wm.map (·.1) := List.mem_map.mpr ⟨_, hqm, rfl⟩
      refine gName_go ?_
      walk_at "rd"
      refine fun pd hpd => ?_
      walk_at "rd"
      have nd3 : (([("none", 0), ("any", size), ("some", if size > 1 then size else 1)] : Ps).map (·.1)).Nodup := (by decide +kernel : (["none", "any", "some"] : List Str).Nodup)
      refine ⟨upd_same, kvI [("none", 0), ("any", size), ("some", if size > 1 then size else 1)], rfl, by show (3 : Nat) ≤ 15; decide, ?_⟩
      rw [show mergeK [] (kvI [("none", 0), ("any", size), ("some", if size > 1 then size else 1)]) = kvI [("none", 0), ("any", size), ("some", if size > 1 then size else 1)] from mergeK_kvI _ [] nd3]
      have Sp : Same H1 (upd (upd H1 pd (.dK [])) pd (.dK (kvI [("none", 0), ("any", size), ("some", if size > 1 then size else 1)]))) := same_over (same_new (fun _ _ e => e) hpd) hpd
      have hpp : upd (upd H1 pd (.dK [])) pd (.dK (kvI [("none", 0), ("any", size), ("some", if size > 1 then size else 1)])) pd = some (.dK (kvI [("none", 0), ("any", size), ("some", if size > 1 then size else 1)])) := upd_same
      generalize upd (upd H1 pd (.dK [])) pd (.dK (kvI [("none", 0), ("any", size), ("some", if size > 1 then size else 1)])) = H5 at Sp hpp
      have hw1 := wget (.inr ⟨od, Sp _ _ (S1 _ _ upd_same)⟩) hyw
      rw [wo_in hW.nd hqm] at hw1
      have hw1 : DGet H5 d (.str y) (some (.str w0)) := hw1
      have g : ∀ q ∈ ([("none", 0), ("any", size), ("some", if size > 1 then size else 1)] : Ps), DGet H5 pd (.str q.1) (some (.int q.2)) := fun q hq => by
        have := dget_r (.inl hpp) nd3 (List.mem_map.mpr ⟨q, hq, rfl⟩)
        rw [co_in nd3 hq] at this
        exact this
      have hg : DGet H5 pd (.str w0) (some (.int (vl w0 size))) := by
        have h3w : w0 = "any" ∨ w0 = "none" ∨ w0 = "some" := (hO.nam _ hqm).2
        rcases h3w with rfl | rfl | rfl
        · rw [vl_any]
          exact g ("any", size) (by simp)
        · rw [vl_none]
          exact g ("none", 0) (by simp)
        · rw [vl_some]
          exact g ("some", if size > 1 then size else 1) (by simp)
      walk_at "rd"
      refine ⟨d, _, rfl, hw1, ?_⟩
      refine ⟨pd, _, rfl, hg, ?_⟩
      have hD5 := hD.same Sp
      have hz : (kvI ((wm.take i).map fun q => (q.1, vl q.2 size))).length < sizeLine := by
        rw [kvI_len, List.length_map, List.length_take]
        exact Nat.lt_of_lt_of_le (m := 64) (by omega) (by decide)
      have ysy : isSym y = true := by
        unfold isSym
        rw [(hO.nam _ hqm).1]
        rfl
      walk_at "rd"
      refine ⟨f, _, rfl, DPut.k (k := Sum.inr y) hD5.at_ hz, ?_⟩
      have hD6 := hD5.put y (vl w0 size) ysy
      have hnew : y ∉ ((wm.take i).map fun q => (q.1, vl q.2 size)).map (·.1) := fun z => by
        rw [List.map_map] at z
        obtain ⟨q, hq, e⟩ := List.mem_map.mp z
        obtain ⟨j, hj, ej⟩ := List.getElem_of_mem hq
        have hji : j < i := by
          rw [List.length_take] at hj
          omega
        rw [List.getElem_take] at ej
        have h1 : (wm.map (·.1))[j]? = some y := by
          rw [List.getElem?_map, List.getElem?_eq_getElem (by rw [List.length_take] at hj; omega), ej]
          exact congrArg some e
        have h2 : (wm.map (·.1))[i]? = some y := by
          rw [List.getElem?_map, hq']
          rfl
        have := (List.getElem?_inj (by rw [List.length_map]; rw [List.length_take] at hj; omega) hW.nd).mp (h1.trans h2.symm)
        omega
      rw [putS_new _ _ _ hnew] at hD6
      refine ⟨_, rfl, ?_, same_over (same_trans S1 Sp) hfl⟩
      rw [List.take_succ, hq', List.map_append]
      exact hD6
    · rintro σ H1 ⟨o5, rfl, hD, S1⟩
      rw [kvT_len, List.take_length] at hD
      refine ⟨S1 _ _ upd_same, ?_⟩
      walk_at "rd"
      have Su : Same H (upd H1 d (.dK (kvT wm))) := same_unlock hW.at_ S1
      have hDu : DictAt (upd H1 d (.dK (kvT wm))) f (wm.map fun q => (q.1, vl q.2 size)) := ⟨(upd_ne df.symm).trans hD.at_, hD.nd, hD.sym⟩
      generalize upd H1 d (.dK (kvT wm)) = H2 at Su hDu
      obtain ⟨xs, hl, hp⟩ := hT
      refine ⟨⟨_, SqL.of (Su _ _ hl)⟩, for_list (a := l) (xs := xs) (fun i σ H' => ∃ o5 o6 o7 o8 o9 : Option V, σ = [some (.ref d), some (.ref l), some (.ref n), some (.int size), some (.ref f), o5, o6, o7, o8, o9] ∧ DictAt H' f ((wm.map fun q => (q.1, vl q.2 size)) ++ (ts.take i).map fun t => (t.1, vr (co m) wm size t)) ∧ Same H H') ⟨o5, none, none, none, none, rfl, by rw [List.take_zero, List.map_nil, List.append_nil]; exact hDu, Su⟩ (fun i σ H' _ ⟨_, _, _, _, _, _, _, e⟩ => SqL.of (e _ _ hl)) ?_ ?_⟩
      · rintro i v σ H3 hi ⟨o5, o6, o7, o8, o9, rfl, hD3, S3⟩
        obtain ⟨t, ht, a, rfl, hat⟩ := paired_at hp hi
        refine ⟨a, _, rfl, SqT.of (S3 _ _ hat), rfl, ?_⟩
        walk_at "rd"
        have htm := List.mem_of_getElem? ht
        have hk : (((wm.map fun q => (q.1, vl q.2 size)) ++ (ts.take i).map fun t => (t.1, vr (co m) wm size t)).map (·.1)) = wm.map (·.1) ++ (ts.take i).map (·.1) := by
          rw [List.map_append, List.map_map, List.map_map]
          rfl
        have il : i < ts.length := by
          rw [← paired_len hp]
          exact (List.getElem?_eq_some_iff.mp hi).1
        have hz : (kvI ((wm.map fun q => (q.1, vl q.2 size)) ++ (ts.take i).map fun t => (t.1, vr (co m) wm size t))).length < sizeLine := by
          rw [kvI_len, List.length_append, List.length_map, List.length_map, List.length_take]
          exact Nat.lt_of_lt_of_le (m := 64) (by omega) (by decide)
        have hnew : t.1 ∉ (((wm.map fun q => (q.1, vl q.2 size)) ++ (ts.take i).map fun t => (t.1, vr (co m) wm size t)).map (·.1)) := fun z => by
          rw [hk] at z
          have nd : (wm.map (·.1) ++ ts.map (·.1)).Nodup := hO.nd
          have e1 : ts.map (·.1) = (ts.take i).map (·.1) ++ t.1 :: (ts.drop (i + 1)).map (·.1) := by
            have e0 : ts = ts.take i ++ t :: ts.drop (i + 1) := by
              have e2 : ts.drop i = t :: ts.drop (i + 1) := by
                rw [List.drop_eq_getElem_cons il]
                rw [List.getElem?_eq_getElem il] at ht
                rw [Option.some.inj ht]
              rw [← e2, List.take_append_drop]
            conv => lhs; rw [e0]
            rw [List.map_append, List.map_cons]
          rw [e1, ← List.append_assoc] at nd
          exact (List.nodup_append.mp nd).2.2 _ z _ (List.mem_cons_self ..) rfl
        have fin : ∀ (v : Int), v = vr (co m) wm size t → DictAt (upd H3 f (.dK (putK (kvI ((wm.map fun q => (q.1, vl q.2 size)) ++ (ts.take i).map fun t => (t.1, vr (co m) wm size t))) (Sum.inr t.1) (V.int v)))) f ((wm.map fun q => (q.1, vl q.2 size)) ++ (ts.take (i + 1)).map fun t => (t.1, vr (co m) wm size t)) := fun v e => by
          have h := hD3.put t.1 v (by
            unfold isSym
            rw [(hO.rnd _ htm).1, Bool.or_true])
          rw [putS_new _ _ _ hnew, e, List.append_assoc] at h
          rw [List.take_succ, ht, List.map_append]
          rw [e]
          exact h
        have fin2 : ∀ o, Same H (upd H3 f o) := fun o => same_over S3 hf
        have z0 : ¬ (t.2.2 = ("any" : Str) ∧ co m t.1 < 0) → (0 : Int) = vr (co m) wm size t := fun h => (if_neg h).symm
        by_cases h1 : t.2.2 = ("any" : Str)
        · refine ite2 (fun _ => ?_) (fun h => absurd (decide_eq_true (show V.str t.2.2 = V.str "any" by rw [h1])) h)
          walk_at "rd"
          refine ⟨.inl ⟨_, .inl (S3 _ _ hN.at_)⟩, ?_⟩
          walk_at "rd"
          refine ⟨_, DGet.k (k := Sum.inr t.1) (S3 _ _ hN.at_), ?_⟩
          rw [kvI_val m t.1 hN.nd]
          walk_at "rd"
          by_cases h2 : co m t.1 < 0
          · refine ite2 (fun _ => ?_) (fun h => absurd (decide_eq_true h2) h)
            walk_at "rd"
            have hq : (t.2.1, vl "some" size) ∈ ((wm.map fun q => (q.1, vl q.2 size)) ++ (ts.take i).map fun t => (t.1, vr (co m) wm size t)) := List.mem_append_left _ (List.mem_map.mpr ⟨_, (hO.rnd _ htm).2.1, rfl⟩)
            have hg := dget_r (.inl hD3.at_) hD3.nd (List.mem_map.mpr ⟨_, hq, rfl⟩)
            rw [co_in hD3.nd hq] at hg
            refine ⟨f, _, rfl, hg, ?_⟩
            walk_at "rd"
            refine ⟨f, _, rfl, DPut.k (k := Sum.inr t.1) hD3.at_ hz, ?_⟩
            refine ⟨_, _, _, _, _, rfl, fin _ ?_, fin2 _⟩
            show _ = (if _ then _ else _)
            rw [if_pos ⟨h1, h2⟩, own_some hO htm]
          · refine ite2 (fun h => absurd (of_decide_eq_true h) h2) (fun _ => ?_)
            walk_at "rd"
            refine ⟨f, _, rfl, DPut.k (k := Sum.inr t.1) hD3.at_ hz, ?_⟩
            exact ⟨_, _, _, _, _, rfl, fin 0 (z0 fun h => h2 h.2), fin2 _⟩
        · refine ite2 (fun h => absurd (V.str.inj (of_decide_eq_true h)) h1) (fun _ => ?_)
          walk_at "rd"
          refine ⟨f, _, rfl, DPut.k (k := Sum.inr t.1) hD3.at_ hz, ?_⟩
          exact ⟨_, _, _, _, _, rfl, fin 0 (z0 fun h => h1 h.1), fin2 _⟩
      · rintro σ H3 ⟨o5, o6, o7, o8, o9, rfl, hD3, S3⟩
        rw [paired_len hp, List.take_length] at hD3
        walk_at "rd"
        exact k _ _ hf hD3 S3
structure TxtA (mg : Str → Option Value) : Prop extends Txt mg where
  n_any : mg "any" = none
def spLLeast : Sp := fun vs H Q _ => ∃ (d l n : Addr) (c : Int) (wm : Ws) (ts : Ts) (m : Ps), vs = [.ref d, .ref l, .int c, .ref n] ∧ d ≠ n ∧ WAt H d wm ∧ TripsAt H l ts ∧ OkD wm ts ∧ DictAt H n m ∧ (∀ s, MulOk (co m s) (co (atM (co m) wm ts 0) s)) ∧ ∀ H', Same H H' → Q (oV (leastD (co m) c wm ts)) H'
abbrev s_law_least : Stmt := top 37
theorem sc_law_least : FnScope ["lengths", "rounds", "constant", "numbers", "text"] ["lengths", "rounds", "constant", "numbers"] (defScope s_law_least) := ⟨rfl, rfl, rfl, by decide +kernel, rfl, by decide +kernel, by decide +kernel⟩
theorem ok_lleast {f : Addr} {fd : FuncData} (F : Fun K "_law_least" "_law_least" s_law_least f fd) (T : TxtA mg) (c_lslope : Cal P w K mg base "_law_slope" 1 spLSlope) (c_total : Cal P w K mg base "_law_total" 1 spTotal) (c_at : Cal P w K mg base "_law_at" 1 spAt) : FnOk P w K mg base CX0 2 f fd ["lengths", "rounds", "constant", "numbers"] spLLeast := by
  refine F.ok sc_law_least (fun vs H Q E h => ?_) (fun cdv A outer s H vs Q E hr h => ?_)
  · obtain ⟨d, l, n, c, wm, ts, m, rfl, _⟩ := h
    rfl
  · obtain ⟨d, l, n, c, wm, ts, m, rfl, hdn, hW, hT, hO, hN, hM, k⟩ := h
    have hu := hu_of hr
    refine ⟨_, (pss_cons (ps_if (pt_val (pe_callB (cr_any rfl) (by rfl) T.n_any (by decide +kernel) (pa_cons (pe_lock (pe_lc (own := [("text", 4)]) (g := gName 4) (by rfl) sc_law_least.nd (pi_keys (pv 0)) (blkOk_by (own := [("text", 4)]) (N := ["lengths", "rounds", "constant", "numbers", "text"]) (sc := defScope s_law_least) (by decide +kernel)) (fun _ _ _ _ _ => (pg_name (i := 4) sc_law_least.nd rfl (Or.inl rfl))) (fun _ _ _ _ _ => pts_nil) (fun _ _ _ _ _ => (pe_cmpR op_lt (pe_cal c_lslope (hr.mono (by decide)) (pa_cons (pv 0) (pa_cons (pv 1) (pa_cons (pv 3) (pa_cons (pv 4) pa_nil))))) pe_int (nomark _))))) pa_nil))) (pss_one (ps_ret pe_non)) pss_nil)
      (pss_one (ps_ret (pe_cal c_total (hr.mono (by decide)) (pa_cons (pv 2) (pa_cons (pv 3) (pa_cons (pe_cal c_at (hr.mono (by decide)) (pa_cons (pv 0) (pa_cons (pv 1) (pa_cons (pv 3) (pa_cons pe_int pa_nil))))) pa_nil))))))), ?_⟩
    have f1 := hO.few.1
    refine ⟨d, .dK (kvT wm), hW.at_, True.intro, fun od => ?_⟩
    walk_at "rd"
    refine ⟨d, od, rfl, .inl ⟨kvT wm, upd_same, fun D hD => lc_it walk_keys (fun i H' => H' D = some (.lst (((wm.take i).map (falls (co m) ts)).map V.bl)) ∧ Same (upd H d (.frz od (.dK (kvT wm)))) H') ⟨upd_same, same_new (fun _ _ e => e) hD⟩ (fun i H' _ ⟨_, s5⟩ => s5 _ _ upd_same) ?_ ?_⟩⟩
    · rintro i x _ H' hi ⟨hacc, S5⟩ ⟨rfl, kk, v, hk, rfl⟩
      obtain ⟨⟨y, w0⟩, hq, rfl, rfl⟩ := kvT_at hk
      refine ⟨rfl, ?_⟩
      have hqm := List.mem_of_getElem? hq
      have hT' : TripsAt H' l ts := by
        obtain ⟨xs, h1, h2⟩ := hT
        refine ⟨xs, S5 _ _ ((upd_ne fun z => by rw [z, hW.at_] at h1; cases h1).trans h1), ?_⟩
        refine paired_map (fun v t hv => ?_) h2
        obtain ⟨a, rfl, ha⟩ := hv
        exact ⟨a, rfl, S5 _ _ ((upd_ne fun z => by rw [z, hW.at_] at ha; cases ha).trans ha)⟩
      have hN' : DictAt H' n m := ⟨S5 _ _ ((upd_ne hdn.symm).trans hN.at_), hN.nd, hN.sym⟩
      walk_at "rd"
      refine ⟨d, l, n, y, wm, ts, m, rfl, .inr ⟨od, S5 _ _ upd_same⟩, hT', hN', List.mem_map.mpr ⟨_, hqm, rfl⟩, hO.few.2, ?_⟩
      walk_at "rd"
      refine ⟨_, hacc, ?_, ?_, same_over S5 hD⟩
      · rw [List.length_map, List.length_map, List.length_take]
        exact Nat.lt_of_lt_of_le (m := 64) (by omega) (by decide)
      · rw [upd_same, List.take_succ, hq, List.map_append, List.map_append]
        have e : falls (co m) ts (y, w0) = decide ((if wo wm y = ("none" : Str) then 0 else slope (co m) ts y) < 0) := by
          rw [wo_in hW.nd hqm]
          unfold falls
          by_cases z : w0 = ("none" : Str)
          · rw [if_pos z, decide_eq_false (fun h => h z), Bool.false_and]
            rfl
          · rw [if_neg z, decide_eq_true z, Bool.true_and]
        exact congrArg (fun b => some (HO.lst (List.map V.bl (List.map (falls (co m) ts) (List.take i wm)) ++ [V.bl b]))) e.symm
    · rintro H' ⟨hacc, S5⟩
      rw [kvT_len, List.take_length] at hacc
      refine ⟨S5 _ _ upd_same, ?_⟩
      have Su := same_unlock hW.at_ S5
      have Dd : D ≠ d := fun z => by rw [z, upd_same] at hD; cases hD
      have hacc : upd H' d (.dK (kvT wm)) D = _ := (upd_ne Dd).trans hacc
      generalize upd H' d (.dK (kvT wm)) = H2 at Su hacc
      walk_at "rd"
      refine ⟨D, _, rfl, SqL.of hacc, ?_⟩
      walk_at "rd"
      have hk := k
      unfold leastD at hk
      refine ite2 (fun h => ?_) (fun h => ?_)
      · rw [if_pos (by rw [← h, List.any_map]; rfl)] at hk
        walk_at "rd"
        exact hk _ Su
      · rw [if_neg (fun z => h (by rw [← z, List.any_map]; rfl))] at hk
        walk_at "rd"
        refine ⟨d, l, n, 0, wm, ts, m, rfl, hW.same Su, hT.same Su, hO, hN.same Su, fun v H3 hv hDv S3 => ?_⟩
        refine ⟨c, n, v, m, _, rfl, fun z => ?_, (hN.same Su).same S3, hDv, hM, fun H4 S4 => ?_⟩
        · rw [z, Su _ _ hN.at_] at hv
          cases hv
        · rw [at_zero hO]
          walk_at "rd"
          exact hk _ (same_trans (same_trans Su S3) S4)
end
end Ow

namespace Ow
open PySem L2
theorem atM_keys (g : Str → Int) (wm : Ws) (ts : Ts) (n : Int) : (atM g wm ts n).map (·.1) = syms wm ts := by
  unfold atM syms
  rw [List.map_append, List.map_map, List.map_map]
  rfl
theorem fit_at {g : Str → Int} {wm : Ws} {ts : Ts} (h : OkD wm ts) {n : Int} (hn : 0 ≤ n) : Fit wm ts (atM g wm ts n) := by
  have nd : ((atM g wm ts n).map (·.1)).Nodup := by rw [atM_keys]; exact h.nd
  have cl : ∀ q ∈ wm, co (atM g wm ts n) q.1 = vl q.2 n := fun q hq => co_in (q := (q.1, vl q.2 n)) nd (List.mem_append_left _ (List.mem_map.mpr ⟨q, hq, rfl⟩))
  have cr : ∀ t ∈ ts, co (atM g wm ts n) t.1 = vr g wm n t := fun t ht => co_in (q := (t.1, vr g wm n t)) nd (List.mem_append_right _ (List.mem_map.mpr ⟨t, ht, rfl⟩))
  have s1 : 1 ≤ vl "some" n := by
    rw [vl_some]
    split <;> omega
  refine ⟨by rw [atM_keys], fun q hq => ?_, fun t ht => ?_⟩
  · rw [cl q hq]
    unfold fitL
    rcases (h.nam q hq).2 with e | e | e
    · rw [e, if_neg ne_an, if_neg ne_as, vl_any]
      exact decide_eq_true hn
    · rw [e, if_pos rfl, vl_none]
      rfl
    · rw [e, if_neg ne_sn, if_pos rfl]
      exact decide_eq_true s1
  · have ho := (h.rnd t ht).2.1
    have cw : co (atM g wm ts n) t.2.1 = vl "some" n := cl _ ho
    rw [cr t ht, cw]
    unfold fitR vr
    rcases (h.rnd t ht).2.2 with e | e
    · rw [e, if_pos rfl, if_neg (fun z => absurd z.1 (by decide +kernel))]
      rfl
    · rw [e, if_neg (by decide +kernel), own_some h ht]
      split
      · rw [Bool.and_eq_true]
        exact ⟨decide_eq_true (by omega), decide_eq_true (by omega)⟩
      · rw [Bool.and_eq_true]
        exact ⟨decide_eq_true (by omega), decide_eq_true (by omega)⟩
theorem least_le {g : Str → Int} {c v : Int} {wm : Ws} {ts : Ts} (h : OkD wm ts) {n : Int} (hn : 0 ≤ n) (e : leastD g c wm ts = some v) : v ≤ c + ev (atM g wm ts n) g := by
  unfold leastD at e
  by_cases z : wm.any (falls g ts) = true
  · rw [if_pos z] at e
    cases e
  · rw [if_neg z] at e
    have e := Option.some.inj e
    have := at_ge h hn (Bool.eq_false_iff.mpr z)
    omega
/-- what the dict of rounds' and lists' values at `n` is bounded by -/
theorem atM_le {g : Str → Int} {wm : Ws} {ts : Ts} (h : OkD wm ts) {n : Int} (hn : 0 ≤ n) (s : Str) : 0 ≤ co (atM g wm ts n) s ∧ co (atM g wm ts n) s ≤ n + 1 := by
  have nd : ((atM g wm ts n).map (·.1)).Nodup := by rw [atM_keys]; exact h.nd
  have lv : ∀ w : Str, 0 ≤ vl w n ∧ vl w n ≤ n + 1 := fun w => by
    unfold vl
    split
    · omega
    · split
      · omega
      · split <;> omega
  have s1 : 1 ≤ vl "some" n := by
    rw [vl_some]
    split <;> omega
  by_cases hs : s ∈ (atM g wm ts n).map (·.1)
  · obtain ⟨q, hq, rfl⟩ := List.mem_map.mp hs
    rw [co_in nd hq]
    unfold atM at hq
    rcases List.mem_append.mp hq with hq | hq
    · obtain ⟨u, _, rfl⟩ := List.mem_map.mp hq
      exact lv u.2
    · obtain ⟨t, ht, rfl⟩ := List.mem_map.mp hq
      show 0 ≤ vr g wm n t ∧ vr g wm n t ≤ n + 1
      unfold vr
      rw [own_some h ht]
      have := lv "some"
      split <;> omega
  · rw [co_out hs]
    omega
end Ow

set_option Elab.async false
set_option linter.all false
set_option maxRecDepth 100000
set_option maxHeartbeats 8000000
namespace Ow
open PySem PySem.Spec PyProof.Rows L2
local macro_rules | `(tactic| walk_at "rd") => `(tactic| repeat (first | (refine ⟨_, rfl, ?_⟩) | (refine ⟨_, _, rfl, rfl, ?_⟩) | (refine ⟨rfl, ?_⟩) | (refine ⟨_, _, rfl, ?_⟩) | (refine Or.inl ⟨_, rfl, ?_⟩) | (refine ⟨(by first | (show (0 : Int) < (_ : Int); decide) | exact Or.inl ⟨by decide, by decide⟩ | exact Or.inr ⟨by decide, by decide⟩ | exact ⟨by decide, by decide⟩ | exact ⟨by decide, by decide, by decide⟩), ?_⟩)))
def Bd (m : Ps) : Prop := ∀ q ∈ m, q.2.natAbs ≤ 10 ^ 26
theorem bd_co {m : Ps} (nd : (m.map (·.1)).Nodup) (h : Bd m) (s : Str) : (co m s).natAbs ≤ 10 ^ 26 := by
  by_cases hs : s ∈ m.map (·.1)
  · obtain ⟨q, hq, rfl⟩ := List.mem_map.mp hs
    rw [co_in nd hq]
    exact h q hq
  · rw [co_out hs]
    exact Nat.zero_le _
theorem bd_mul {m : Ps} {wm : Ws} {ts : Ts} {n : Int} (nd : (m.map (·.1)).Nodup) (h : Bd m) (hO : OkD wm ts) (h0 : 0 ≤ n) (h1 : n ≤ 10 ^ 20) (g : Str → Int) (s : Str) : MulOk (co m s) (co (atM g wm ts n) s) := by
  have a := bd_co nd h s
  obtain ⟨b, c⟩ := atM_le (g := g) hO h0 s
  refine MulOk.small (Nat.lt_of_le_of_lt a (by decide)) (Nat.lt_of_le_of_lt (m := 10 ^ 20 + 1) (by omega) (by decide))
theorem bd_put {m : Ps} {y : Str} {v : Int} (h : Bd m) (hv : v.natAbs ≤ 10 ^ 26) : Bd (putS m y v) := fun q hq => by
  rcases putS_vals q hq with e | e
  · exact h q e
  · rw [e]; exact hv
def ngm (m : Ps) : Ps := m.map fun q => (q.1, -q.2)
theorem ngm_keys (m : Ps) : (ngm m).map (·.1) = m.map (·.1) := by
  unfold ngm
  rw [List.map_map]
  rfl
theorem co_ngm (s : Str) : ∀ m : Ps, co (ngm m) s = -co m s
  | [] => rfl
  | q :: m => by
    show (if q.1 = s then -q.2 else 0) + co (ngm m) s = -((if q.1 = s then q.2 else 0) + co m s)
    rw [co_ngm s m]
    split <;> omega
theorem ngm_bd {m : Ps} (h : Bd m) : Bd (ngm m) := fun q hq => by
  obtain ⟨r, hr, rfl⟩ := List.mem_map.mp hq
  show (-r.2).natAbs ≤ _
  rw [Int.natAbs_neg]
  exact h r hr
theorem scal_oV (o : Option Int) : scal (oV o) (oV o) = true := by cases o <;> rfl
def anyL (ts : Ts) : List Str := (ts.filter fun t => decide (t.2.2 = ("any" : Str))).map (·.1)
section
variable {P : Program} {w : World} {K : PySem.W.Frag} {mg : Str → Option Value} {base : Heap} {C CD : Addr}
abbrev s_law : Stmt := top 38
theorem sc_law : FnScope ["script", "at", "bag", "lengths", "rounds", "numbers", "symbol", "one", "form", "domain", "turned", "size", "constant", "pairs", "due", "most", "values", "total", "owner", "word"] ["script"] (defScope s_law) := ⟨rfl, rfl, rfl, by decide +kernel, rfl, by decide +kernel, by decide +kernel⟩
theorem ok_law {f : Addr} {fd : FuncData} (F : Fun K "law" "law" s_law f fd) (T : TxtA mg) (hForm : mg "Form" = some (.ref C)) (c_bag : Cal P w K mg base "_law_bag" 1 (spBag K)) (c_take : Cal P w K mg base "_law_take" 1 spTake) (c_number : Cal P w K mg base "_law_number" 2 spNumber) (c_pairs : Cal P w K mg base "_law_pairs" 3 spPairs) (c_sums : Cal P w K mg base "_law_sums" 1 spSums)
  (c_lengths : Cal P w K mg base "_law_lengths" 3 spLengths) (c_rounds : Cal P w K mg base "_law_rounds" 3 spRounds) (c_at : Cal P w K mg base "_law_at" 1 spAt) (c_total : Cal P w K mg base "_law_total" 1 spTotal) (c_lleast : Cal P w K mg base "_law_least" 2 spLLeast)
  (c_of : CalC P w K mg base C "of" 5 (spOf C)) (c_mk2 : C8.Mak P w K mg base 2 "Domain" CD (spDInit K CD) []) (c_dleast : CalM P w K mg base CD "least" 4 (spLeast CD C)) (c_dgreatest : CalM P w K mg base CD "greatest" 8 (spGreatest CD C)) (c_in : OpX.CalG P w K mg base CD "__contains__" 2 (spDIn CD)) : FnOk P w K mg base CX0 9 f fd ["script"] (spLaw K) := by
  refine F.ok sc_law (fun vs H Q E h => ?_) (fun cdv A outer s H vs Q E hr h => ?_)
  · obtain ⟨a, ns, rfl, _⟩ := h
    rfl
  · obtain ⟨a, ns, rfl, hS, hl, k⟩ := h
    have hu := hu_of hr
    refine ⟨_, (pss_cons (ps_for PassesOwn.never rfl (pi_range1 rfl T.n_range (pa_cons (pe_callB (call_max2 rfl) (by rfl) T.n_max (by decide +kernel) (pa_cons pe_int (pa_cons (pe_callB (call_min2 rfl) (by rfl) T.n_min (by decide +kernel) (pa_cons pe_int (pa_cons (pe_callB call_len_seq (by rfl) T.n_len (by decide +kernel) (pa_cons (pv 0) pa_nil)) pa_nil))) pa_nil))) pa_nil)) (pg_name (i := 1) sc_law.nd rfl (Or.inl rfl))
      (pss_cons (ps_set (i := 2) sc_law.nd rfl (Or.inl rfl) (pe_cal c_bag (hr.mono (by decide)) (pa_cons (pv 0) (pa_cons (pv 1) pa_nil))))
      (pss_cons (ps_set (i := 3) sc_law.nd rfl (Or.inl rfl) (pe_cal c_lengths (hr.mono (by decide)) (pa_cons (pv 2) pa_nil)))
      (pss_cons (ps_set (i := 4) sc_law.nd rfl (Or.inl rfl) (pe_cal c_rounds (hr.mono (by decide)) (pa_cons (pv 2) (pa_cons (pv 3) pa_nil))))
      (pss_cons (ps_par (i := 12) (j := 13) (by rfl) sc_law.nd rfl rfl (by decide) rfl rfl (pa_cons (pe_cal c_number (hr.mono (by decide)) (pa_cons (pv 2) pa_nil)) (pa_cons (pe_cal c_pairs (hr.mono (by decide)) (pa_cons (pv 2) (pa_cons pe_int pa_nil))) pa_nil)) (by rfl))
      (pss_cons (ps_set (i := 5) sc_law.nd rfl (Or.inr rfl) (pe_cal c_sums (hr.mono (by decide)) (pa_cons (pv 13) pa_nil)))
      (pss_cons (ps_for PassesOwn.never rfl (pi_list (pe_callB cr_sortedS (by rfl) T.n_sorted (by decide +kernel) (pa_cons (pe_op op_cat (pe_callTy (call_list_dK rfl) (by rfl) T.n_list (by decide +kernel) (pa_cons (pv 3) pa_nil)) (pe_lc (own := [("one", 7), ("owner", 18), ("word", 19)]) (g := gTup _ 3 (gCons (gName 7) (gCons (gName 18) (gCons (gName 19) (gNil))))) (by rfl) sc_law.nd (pi_list (pv 4)) (blkOk_by (own := [("one", 7), ("owner", 18), ("word", 19)]) (N := ["script", "at", "bag", "lengths", "rounds", "numbers", "symbol", "one", "form", "domain", "turned", "size", "constant", "pairs", "due", "most", "values", "total", "owner", "word"]) (sc := defScope s_law) (by decide +kernel)) (fun _ _ _ _ _ => (pg_tup rfl (pgs_cons (pg_name (i := 7) sc_law.nd rfl (Or.inl rfl)) (pgs_cons (pg_name (i := 18) sc_law.nd rfl (Or.inl rfl)) (pgs_cons (pg_name (i := 19) sc_law.nd rfl (Or.inl rfl)) pgs_nil))))) (fun _ _ _ _ _ => pts_nil) (fun _ _ _ _ _ => (pv 7)))) pa_nil))) (pg_name (i := 6) sc_law.nd rfl (Or.inl rfl))
      (pss_one (ps_if (pt_cmpR op_gt (pe_cal c_take (hr.mono (by decide)) (pa_cons (pv 2) (pa_cons pe_int pa_nil))) pe_int (nomark _)) (pss_one (ps_dput hu (pv 5) (pv 6) (pe_cal c_number (hr.mono (by decide)) (pa_cons (pv 2) pa_nil)) rfl)) pss_nil)))
      (pss_cons (ps_for PassesOwn.never rfl (pi_list (pe_lc (own := [("symbol", 6), ("owner", 18), ("word", 19)]) (g := gTup _ 3 (gCons (gName 6) (gCons (gName 18) (gCons (gName 19) (gNil))))) (by rfl) sc_law.nd (pi_list (pv 4)) (blkOk_by (own := [("symbol", 6), ("owner", 18), ("word", 19)]) (N := ["script", "at", "bag", "lengths", "rounds", "numbers", "symbol", "one", "form", "domain", "turned", "size", "constant", "pairs", "due", "most", "values", "total", "owner", "word"]) (sc := defScope s_law) (by decide +kernel)) (fun _ _ _ _ _ => (pg_tup rfl (pgs_cons (pg_name (i := 6) sc_law.nd rfl (Or.inl rfl)) (pgs_cons (pg_name (i := 18) sc_law.nd rfl (Or.inl rfl)) (pgs_cons (pg_name (i := 19) sc_law.nd rfl (Or.inl rfl)) pgs_nil))))) (fun _ _ _ _ _ => (pts_one (pt_cmpR op_eq (pv 19) pe_str (nomark _)))) (fun _ _ _ _ _ => (pv 6)))) (pg_name (i := 7) sc_law.nd rfl (Or.inl rfl))
      (pss_one (ps_if (pt_cmpR op_eq (pe_cal c_take (hr.mono (by decide)) (pa_cons (pv 2) (pa_cons pe_int pa_nil))) pe_int (nomark _)) (pss_one (ps_dput hu (pv 5) (pv 7) (pe_un un_neg (pe_callB call_abs (by rfl) T.n_abs (by decide +kernel) (pa_cons (pe_cal c_number (hr.mono (by decide)) (pa_cons (pv 2) pa_nil)) pa_nil))) rfl)) pss_nil)))
      (pss_cons (ps_set (i := 8) sc_law.nd rfl (Or.inl rfl) (pe_calC c_of (hr.mono (by decide)) (pe_glob (v := .ref C) rfl hForm rfl) (pa_cons (pv 12) (pa_cons (pe_lock (pe_lc (own := [("symbol", 6)]) (g := gName 6) (by rfl) sc_law.nd (pi_keys (pv 5)) (blkOk_by (own := [("symbol", 6)]) (N := ["script", "at", "bag", "lengths", "rounds", "numbers", "symbol", "one", "form", "domain", "turned", "size", "constant", "pairs", "due", "most", "values", "total", "owner", "word"]) (sc := defScope s_law) (by decide +kernel)) (fun _ _ _ _ _ => (pg_name (i := 6) sc_law.nd rfl (Or.inl rfl))) (fun _ _ _ _ _ => pts_nil) (fun _ _ _ _ _ => (pe_tup (pa_cons (pv 6) (pa_cons (pe_dget hu (pv 5) (pv 6) (fun _ _ => rfl)) pa_nil)))))) pa_nil))))
      (pss_cons (ps_set (i := 9) sc_law.nd rfl (Or.inl rfl) (C8.pe_mk c_mk2 hr (by decide) rfl (pa_cons (pv 3) (pa_cons (pv 4) pa_nil))))
      (pss_cons (ps_set (i := 10) sc_law.nd rfl (Or.inl rfl) (pe_callTy (call_dictP rfl) (by rfl) T.n_dict (by decide +kernel) (pa_cons (pe_lock (pe_lc (own := [("symbol", 6)]) (g := gName 6) (by rfl) sc_law.nd (pi_keys (pv 5)) (blkOk_by (own := [("symbol", 6)]) (N := ["script", "at", "bag", "lengths", "rounds", "numbers", "symbol", "one", "form", "domain", "turned", "size", "constant", "pairs", "due", "most", "values", "total", "owner", "word"]) (sc := defScope s_law) (by decide +kernel)) (fun _ _ _ _ _ => (pg_name (i := 6) sc_law.nd rfl (Or.inl rfl))) (fun _ _ _ _ _ => pts_nil) (fun _ _ _ _ _ => (pe_tup (pa_cons (pv 6) (pa_cons (pe_un un_neg (pe_dget hu (pv 5) (pv 6) (fun _ _ => rfl))) pa_nil)))))) pa_nil)))
      (pss_cons (ps_par (i := 14) (j := 15) (by rfl) sc_law.nd rfl rfl (by decide) rfl rfl (pa_cons (pe_cal c_lleast (hr.mono (by decide)) (pa_cons (pv 3) (pa_cons (pv 4) (pa_cons (pv 12) (pa_cons (pv 5) pa_nil))))) (pa_cons (pe_cal c_lleast (hr.mono (by decide)) (pa_cons (pv 3) (pa_cons (pv 4) (pa_cons (pe_un un_neg (pv 12)) (pa_cons (pv 10) pa_nil))))) pa_nil)) (by rfl))
      (pss_cons (ps_if (PW.pt (pw_or (pt_cmpR op_ne (pe_calM c_dleast (hr.mono (by decide)) (pv 9) (pa_cons (pv 8) pa_nil)) (pv 14) (nomark _)) (pw_or1 (pt_cmpR op_ne (pe_calM c_dgreatest (hr.mono (by decide)) (pv 9) (pa_cons (pv 8) pa_nil)) (pe_ifExp (pt_cmpR op_isN (pv 15) pe_non (nomark _)) pe_non (pe_un un_neg (pv 15))) (nomark _))))) (pss_one (ps_ret pe_bl)) pss_nil)
      (pss_cons (ps_for PassesOwn.never rfl (pi_list (pe_lst (pa_cons pe_int (pa_cons pe_int (pa_cons pe_int (pa_cons pe_int (pa_cons (pe_op op_pow pe_int pe_int) pa_nil))))))) (pg_name (i := 11) sc_law.nd rfl (Or.inl rfl))
      (pss_cons (ps_set (i := 16) sc_law.nd rfl (Or.inl rfl) (pe_cal c_at (hr.mono (by decide)) (pa_cons (pv 3) (pa_cons (pv 4) (pa_cons (pv 5) (pa_cons (pv 11) pa_nil))))))
      (pss_cons (ps_set (i := 17) sc_law.nd rfl (Or.inl rfl) (pe_cal c_total (hr.mono (by decide)) (pa_cons (pv 12) (pa_cons (pv 5) (pa_cons (pv 16) pa_nil)))))
      (pss_one (ps_if (PW.pt (pw_or (pt_cmpR (OpX.op_notInC c_in (hr.mono (by decide))) (pv 16) (pv 9) rfl) (pw_or1 (PW.pt (pw_and (pt_cmpR op_notN (pv 14) pe_non (nomark _)) (pw_and1 (pt_cmpR op_lt (pv 17) (pv 14) (nomark _)))))))) (pss_one (ps_ret pe_bl)) pss_nil)))))
      (pss_one (ps_if (pt_cmpR op_ne (pe_calM c_dleast (hr.mono (by decide)) (pv 9) (pa_cons (pv 8) pa_nil)) (pv 14) (nomark _)) (pss_one (ps_ret pe_bl)) pss_nil))))))))))))))))
      (pss_one (ps_ret pe_bl))), ?_⟩
    walk_at "rd"
    refine ⟨a, _, rfl, .inl hS, ?_⟩
    rw [List.length_map]
    walk_at "rd"
    refine ⟨?_, ?_, ?_⟩
    · have hm : -(2 ^ 62) ≤ (if (if (ns.length : Int) < 12 then (ns.length : Int) else 12) > 1 then (if (ns.length : Int) < 12 then (ns.length : Int) else 12) else 1) := by
        split <;> split <;> omega
      exact hm
    · have hm : (if (if (ns.length : Int) < 12 then (ns.length : Int) else 12) > 1 then (if (ns.length : Int) < 12 then (ns.length : Int) else 12) else 1) < 2 ^ 62 := by
        split <;> split <;> omega
      exact hm
    have hm : (if (if (ns.length : Int) < 12 then (ns.length : Int) else 12) > 1 then (if (ns.length : Int) < 12 then (ns.length : Int) else 12) else 1).toNat ≤ 12 := by
      split <;> split <;> omega
    refine for_range (lo := 0) (fun i σ H' => ∃ (o1 o2 o3 o4 o5 o6 o7 o8 o9 o10 o11 o12 o13 o14 o15 o16 o17 o18 o19 : Option V), σ = [some (.ref a), o1, o2, o3, o4, o5, o6, o7, o8, o9, o10, o11, o12, o13, o14, o15, o16, o17, o18, o19] ∧ Same H H') ⟨none, none, none, none, none, none, none, none, none, none, none, none, none, none, none, none, none, none, none, rfl, fun _ _ e => e⟩ ?_ ?_
    · rintro i σ H' hi ⟨o1, o2, o3, o4, o5, o6, o7, o8, o9, o10, o11, o12, o13, o14, o15, o16, o17, o18, o19, rfl, S⟩
      have hi12 : i < 12 := Nat.lt_of_lt_of_le hi hm
      walk_at "rd"
      refine ⟨a, ns, i, by rw [Int.zero_add], S.seq hS, hl, by omega, fun b H1 hb hB1 S1 => ?_⟩
      have hb0 : H b = none := none_back S hb
      have SH := same_trans S S1
      clear S S1 hb
      walk_at "rd"
      refine ⟨b, 0, rfl, hB1, by omega, fun d wm H2 hd hW hO B2 S2 => ?_⟩
      have SH := same_stay SH hb0 S2
      clear S2
      walk_at "rd"
      refine ⟨b, d, _, wm, rfl, B2, by omega, hW, hO, fun l ts H3 hl lb hT hOD hl3 B3 S3 => ?_⟩
      have SH := same_stay SH hb0 S3
      have hW := hW.stay S3 B2.lst
      clear S3 B2 hB1 hd
      walk_at "rd"
      refine ⟨b, _, rfl, B3, by omega, fun c H4 hc B4 S4 => ?_⟩
      have SH := same_stay SH hb0 S4
      have hW := hW.stay S4 B3.lst
      have hT := hT.stay S4 B3.lst lb
      clear S4 B3
      walk_at "rd"
      refine ⟨b, _, 3, rfl, B4, by omega, by decide, by decide, fun lp ps H5 lpb lpn hP hOP hpl B5 S5 => ?_⟩
      have SH := same_stay SH hb0 S5
      have hW := hW.stay S5 B4.lst
      have hT := hT.stay S5 B4.lst lb
      clear S5 B4
      walk_at "rd"
      refine ⟨lp, ps, rfl, hP, hOP, by omega, fun n m H6 hn hN hml hcm S6 => ?_⟩
      have hn0 : H n = none := none_back SH hn
      have nb : n ≠ b := fun z => by
        obtain ⟨ys, e⟩ := B5.lst
        rw [← z, hn] at e
        cases e
      have dn : d ≠ n := fun z => by
        have e := hW.at_
        rw [z, hn] at e
        cases e
      have hBd : Bd m := fun q hq => by
        rw [form_mem hN.nd hcm hq]
        have := co_bound hOP.big q.1
        have : ps.length * 10 ^ 25 ≤ 2 * 10 ^ 25 := Nat.mul_le_mul_right _ (by omega)
        omega
      have SH := same_trans SH S6
      have hW := hW.same S6
      have hT := hT.same S6
      have B6 := B5.same S6
      have hml : m.length ≤ 2 := by omega
      clear S6 B5 hP hcm hn hOP
      have f1 := hO.few
      have f3 := hOD.few
      obtain ⟨xs, h3, h4⟩ := id hT
      walk_at "rd"
      refine ⟨d, _, rfl, hW.at_, fun q hq => ?_⟩
      have S1 := same_new (o := .lst ((kvT wm).map fun kv => kV kv.1)) (fun a u (e : H6 a = some u) => e) hq
      walk_at "rd"
      refine ⟨⟨_, SqL.of (S1 _ _ h3)⟩, fun D hD => lc_list (a := l) (xs := xs) (fun i H' => H' D = some (.lst ((ts.take i).map fun t => V.str t.1)) ∧ Same (upd H6 q (.lst ((kvT wm).map fun kv => kV kv.1))) H') ⟨upd_same, same_new (fun _ _ e => e) hD⟩ (fun i H' _ h => SqL.of (h.2 _ _ (S1 _ _ h3))) ?_ ?_⟩
      · rintro i x H' hi ⟨ha, S5⟩
        obtain ⟨t, ht, a, rfl, hat⟩ := paired_at h4 hi
        refine ⟨a, _, rfl, SqT.of (S5 _ _ (S1 _ _ hat)), rfl, ?_⟩
        walk_at "rd"
        refine ⟨_, ha, ?_, ?_, same_over S5 hD⟩
        · rw [List.length_map, List.length_take]
          exact Nat.lt_of_lt_of_le (m := 64) (by omega) (by decide)
        · rw [upd_same, List.take_succ, ht, List.map_append]
          rfl
      · rintro H' ⟨ha, S5⟩
        rw [paired_len h4, List.take_length] at ha
        have qD : q ≠ D := fun z => by rw [z, upd_same] at hD; cases hD
        have ek : (kvT wm).map (fun kv => kV kv.1) = (wm.map (·.1)).map V.str := by
          unfold kvT
          rw [List.map_map, List.map_map]
          rfl
        have hq2 := S5 _ _ upd_same
        rw [ek] at hq2
        refine ⟨q, D, (wm.map (·.1)).map V.str, (ts.map (·.1)).map V.str, rfl, rfl, hq2, by rw [ha, List.map_map]; rfl, ?_, fun r hr => ?_⟩
        · simp only [List.length_map]
          exact Nat.le_trans (m := 64) (by omega) (by decide)
        have S6 : Same H6 (upd H' r (.lst ((wm.map (·.1)).map V.str ++ (ts.map (·.1)).map V.str))) := same_new (same_trans S1 S5) hr
        refine ⟨r, syms wm ts, rfl, SqL.of (by rw [upd_same]; unfold syms; rw [List.map_append]), by unfold syms; rw [List.length_append, List.length_map, List.length_map]; omega, fun zs z zperm zsort hz => ?_⟩
        have nH6 : ∀ {c : Addr}, c = b ∨ c = n → ∃ o, H6 c = some o := fun {c} e => by
          rcases e with rfl | rfl
          · obtain ⟨ys, e⟩ := B6.lst
            exact ⟨_, e⟩
          · exact ⟨_, hN.at_⟩
        have zM : ¬ (z = b ∨ z = n) := fun e => by
          obtain ⟨o, e2⟩ := nH6 e
          rw [S6 _ _ e2] at hz
          cases hz
        have S7 := same_new (o := .lst (zs.map V.str)) S6 hz
        have hzz : upd (upd H' r (.lst ((wm.map (·.1)).map V.str ++ (ts.map (·.1)).map V.str))) z (.lst (zs.map V.str)) z = some (.lst (zs.map V.str)) := upd_same
        generalize upd (upd H' r (.lst ((wm.map (·.1)).map V.str ++ (ts.map (·.1)).map V.str))) z (.lst (zs.map V.str)) = HB at S7 hzz
        clear S1 S5 S6 hr hz ha hD hq hq2 h3 h4 nH6
        have hzs : ∀ y ∈ zs, isSym y = true := fun y hy => hOD.sym y (zperm.mem_iff.mp hy)
        have hzl : zs.length ≤ 16 := by
          rw [zperm.length_eq]
          unfold syms
          rw [List.length_append, List.length_map, List.length_map]
          omega
        have hW := hW.same S7
        have hT := hT.same S7
        have B7 := B6.same S7
        have hN := hN.same S7
        have SH := same_trans SH S7
        clear S7 B6
        have dM : ¬ (d = b ∨ d = n) := fun e => by
          rcases e with e | e
          · obtain ⟨ys, q⟩ := B7.lst
            rw [← e, hW.at_] at q
            cases q
          · exact dn e
        have lM : ¬ (l = b ∨ l = n) := fun e => by
          rcases e with e | e
          · exact lb e
          · obtain ⟨ys, q, _⟩ := hT
            rw [e, hN.at_] at q
            cases q
        have tM : ∀ a xs, HB a = some (.tup xs) → ¬ (a = b ∨ a = n) := fun c xs h e => by
          rcases e with e | e
          · obtain ⟨ys, q⟩ := B7.lst
            rw [e, q] at h
            cases h
          · rw [e, hN.at_] at h
            cases h
        refine ⟨z, rfl, ⟨_, SqL.of hzz⟩, for_list (a := z) (xs := zs.map V.str) (fun j σ H' => ∃ (m : Ps) (o6 : Option V), σ = [some (.ref a), some (.int (0 + (i : Int))), some (.ref b), some (.ref d), some (.ref l), some (.ref n), o6, o7, o8, o9, o10, o11, some (.int c), some (.ref lp), o14, o15, o16, o17, o18, o19] ∧ DictAt H' n m ∧ m.length ≤ 2 + j ∧ Bd m ∧ BagAt H' b (3000 + 3 * j) ∧ Keep (fun a => a = b ∨ a = n) HB H') ⟨m, _, rfl, hN, hml, hBd, B7.mono (by omega), Keep.refl _ _⟩ (fun j σ H' _ ⟨_, _, _, _, _, _, _, s5⟩ => SqL.of (s5 _ _ zM hzz)) ?_ ?_⟩
        · rintro j v σ H' hj ⟨m, o6, rfl, hN, hml, hBd, BJ, SJ⟩
          obtain ⟨y, hy, rfl⟩ := str_at hj
          have hysy : isSym y = true := hzs y (List.mem_of_getElem? hy)
          have hj16 : j < 16 := by
            have := (List.getElem?_eq_some_iff.mp hy).1
            omega
          walk_at "rd"
          refine ⟨b, _, 4, rfl, BJ, by omega, by decide, by decide, fun r H1 r0 r1 B1 S1 => ?_⟩
          have hN := hN.stay S1 nb
          have SJ := SJ.stay S1 (.inl rfl)
          walk_at "rd"
          refine ite2 (fun h => ?_) (fun h => ?_)
          · walk_at "rd"
            refine ⟨b, _, rfl, B1, by omega, fun v H2 hv B2 S2 => ?_⟩
            have hN := hN.stay S2 nb
            have SJ := SJ.stay S2 (.inl rfl)
            walk_at "rd"
            refine ⟨n, _, rfl, DPut.k (k := Sum.inr y) hN.at_ (by rw [kvI_len]; exact Nat.lt_of_lt_of_le (m := 64) (by omega) (by decide)), ?_⟩
            have hN2 := hN.put y v hysy
            refine ⟨_, _, rfl, hN2, by have := putS_len m y v; omega, bd_put hBd (by omega), (B2.upd nb.symm).mono (by omega), SJ.put (.inr rfl)⟩
          · exact ⟨_, _, rfl, hN, by omega, hBd, B1.mono (by omega), SJ⟩
        · rintro σ HC ⟨m, o6, rfl, hN, hml, hBd, BC, SC⟩
          rw [List.length_map] at hml BC
          have hW := WAt.mk (SC _ _ dM hW.at_) hW.nd
          have hT := hT.keep SC lM tM
          have SH := Keep.since SH SC (fun c e => by
            rcases e with e | e
            · rw [e]; exact hb0
            · rw [e]; exact hn0)
          clear SC hzz B7
          obtain ⟨xs, h3, h4⟩ := id hT
          walk_at "rd"
          refine ⟨⟨_, SqL.of h3⟩, fun D hD => lc_list (a := l) (xs := xs) (fun i H' => H' D = some (.lst ((anyL (ts.take i)).map V.str)) ∧ Same HC H') ⟨upd_same, same_new (fun _ _ e => e) hD⟩ (fun i H' _ h => SqL.of (h.2 _ _ h3)) ?_ ?_⟩
          · rintro i x H' hi ⟨ha, S5⟩
            obtain ⟨t, ht, a, rfl, hat⟩ := paired_at h4 hi
            refine ⟨a, _, rfl, SqT.of (S5 _ _ hat), rfl, ?_⟩
            walk_at "rd"
            have hal : (anyL (ts.take i)).length ≤ 8 := by
              unfold anyL
              rw [List.length_map]
              refine Nat.le_trans (List.length_filter_le _ _) ?_
              rw [List.length_take]
              omega
            have hsn : anyL (ts.take (i + 1)) = anyL (ts.take i) ++ (if t.2.2 = ("any" : Str) then [t.1] else []) := by
              unfold anyL
              rw [List.take_succ, ht, List.filter_append, List.map_append]
              congr 1
              by_cases e : t.2.2 = ("any" : Str)
              · simp [e]
              · simp [e]
            by_cases h1 : t.2.2 = ("any" : Str)
            · refine ite2 (fun _ => ?_) (fun h => absurd (decide_eq_true (show V.str t.2.2 = V.str "any" by rw [h1])) h)
              walk_at "rd"
              rw [if_pos h1] at hsn
              refine ⟨_, ha, ?_, ?_, same_over S5 hD⟩
              · rw [List.length_map]
                exact Nat.lt_of_lt_of_le (m := 64) (by omega) (by decide)
              · rw [upd_same, hsn, List.map_append]
                rfl
            · refine ite2 (fun h => absurd (V.str.inj (of_decide_eq_true h)) h1) (fun _ => ?_)
              rw [if_neg h1, List.append_nil] at hsn
              rw [hsn]
              exact ⟨ha, S5⟩
          · rintro HD ⟨ha, S5⟩
            rw [paired_len h4, List.take_length] at ha
            have hW := hW.same S5
            have hT := hT.same S5
            have BD := BC.same S5
            have hN := hN.same S5
            have SH := same_trans SH S5
            have DM : ¬ (D = b ∨ D = n) := fun e => by
              rcases e with e | e
              · obtain ⟨ys, q⟩ := BC.lst
                rw [← e, hD] at q
                cases q
              · have q := hN.at_
                rw [← e, ha] at q
                cases q
            have dM : ¬ (d = b ∨ d = n) := dM
            have tM : ∀ a xs, HD a = some (.tup xs) → ¬ (a = b ∨ a = n) := fun c xs h e => by
              rcases e with e | e
              · obtain ⟨ys, q⟩ := BD.lst
                rw [e, q] at h
                cases h
              · rw [e, hN.at_] at h
                cases h
            have hal : (anyL ts).length ≤ 8 := by
              unfold anyL
              rw [List.length_map]
              exact Nat.le_trans (List.length_filter_le _ _) (by omega)
            clear S5 BC h3 h4 hD
            refine ⟨D, rfl, ⟨_, SqL.of ha⟩, for_list (a := D) (xs := (anyL ts).map V.str) (fun j σ H' => ∃ (m : Ps) (o7 : Option V), σ = [some (.ref a), some (.int (0 + (i : Int))), some (.ref b), some (.ref d), some (.ref l), some (.ref n), o6, o7, o8, o9, o10, o11, some (.int c), some (.ref lp), o14, o15, o16, o17, o18, o19] ∧ DictAt H' n m ∧ m.length ≤ 18 + j ∧ Bd m ∧ BagAt H' b (4000 + 3 * j) ∧ Keep (fun a => a = b ∨ a = n) HD H') ⟨m, _, rfl, hN, by omega, hBd, BD.mono (by omega), Keep.refl _ _⟩ (fun j σ H' _ ⟨_, _, _, _, _, _, _, s5⟩ => SqL.of (s5 _ _ DM ha)) ?_ ?_⟩
            · rintro j v σ H' hj ⟨m, o7, rfl, hN, hml, hBd, BJ, SJ⟩
              obtain ⟨y, hy, rfl⟩ := str_at hj
              have hysy : isSym y = true := by
                have hm := List.mem_of_getElem? hy
                unfold anyL at hm
                obtain ⟨t, ht, rfl⟩ := List.mem_map.mp hm
                exact hOD.sym _ (List.mem_append_right _ (List.mem_map.mpr ⟨t, (List.mem_filter.mp ht).1, rfl⟩))
              have hj8 : j < 8 := by
                have := (List.getElem?_eq_some_iff.mp hy).1
                omega
              walk_at "rd"
              refine ⟨b, _, 3, rfl, BJ, by omega, by decide, by decide, fun r H1 r0 r1 B1 S1 => ?_⟩
              have hN := hN.stay S1 nb
              have SJ := SJ.stay S1 (.inl rfl)
              walk_at "rd"
              refine ite2 (fun h => ?_) (fun h => ?_)
              · walk_at "rd"
                refine ⟨b, _, rfl, B1, by omega, fun v H2 hv B2 S2 => ?_⟩
                have hN := hN.stay S2 nb
                have SJ := SJ.stay S2 (.inl rfl)
                walk_at "rd"
                refine ⟨n, _, rfl, DPut.k (k := Sum.inr y) hN.at_ (by rw [kvI_len]; exact Nat.lt_of_lt_of_le (m := 64) (by omega) (by decide)), ?_⟩
                have hN2 := hN.put y (-(if v < 0 then -v else v)) hysy
                refine ⟨_, _, rfl, hN2, by have := putS_len m y (-(if v < 0 then -v else v)); omega, bd_put hBd (by split <;> omega), (B2.upd nb.symm).mono (by omega), SJ.put (.inr rfl)⟩
              · exact ⟨_, _, rfl, hN, by omega, hBd, B1.mono (by omega), SJ⟩
            · rintro σ HE ⟨m, o7, rfl, hN, hml, hBd, BE, SE⟩
              rw [List.length_map] at hml BE
              have hW := WAt.mk (SE _ _ dM hW.at_) hW.nd
              have hT := hT.keep SE lM tM
              have SH := Keep.since SH SE (fun c e => by
                rcases e with e | e
                · rw [e]; exact hb0
                · rw [e]; exact hn0)
              have hml : m.length ≤ 26 := by omega
              clear SE ha BD tM BE
              walk_at "rd"
              refine ⟨n, .dK (kvI m), hN.at_, True.intro, fun od => ?_⟩
              walk_at "rd"
              refine ⟨n, od, rfl, .inl ⟨kvI m, upd_same, fun D hD => lc_it walk_keys (fun i H' => ∃ acc, H' D = some (.lst acc) ∧ Paired (PairAt H') acc (m.take i) ∧ acc.length ≤ i ∧ Same (upd HE n (.frz od (.dK (kvI m)))) H') ⟨[], upd_same, .nil, Nat.le_refl _, same_new (fun _ _ e => e) hD⟩ (fun i H' _ ⟨_, _, _, _, s5⟩ => s5 _ _ upd_same) ?_ ?_⟩⟩
              · rintro ji vx H0 HK hji ⟨acc, ha, hpa, hal, SK⟩ ⟨rfl, k0, v0, hkv, rfl⟩
                rw [kvI_len] at hji
                obtain ⟨⟨s1, w1⟩, hq', rfl, rfl⟩ := kvI_at hkv
                have hmm := List.mem_of_getElem? hq'
                refine ⟨rfl, ?_⟩
                walk_at "rd"
                have hg := dget_r (.inr ⟨od, SK _ _ upd_same⟩) hN.nd (List.mem_map.mpr ⟨_, hmm, rfl⟩)
                rw [co_in hN.nd hmm] at hg
                refine ⟨n, _, rfl, hg, ?_⟩
                walk_at "rd"
                refine ⟨by show 2 ≤ sizeLine; decide, fun t ht => ?_⟩
                obtain ⟨q1, q2⟩ := push_lc (x := s1) (v := w1) ha hpa ht
                refine ⟨acc, q1, Nat.lt_of_lt_of_le (m := 64) (by omega) (by decide), _, upd_same, ?_, by rw [List.length_append]; simp only [List.length_cons, List.length_nil]; omega, same_over (same_new SK ht) hD⟩
                rw [take_snoc hq']
                exact q2
              · rintro HK ⟨acc, ha, hpa, hal, SK⟩
                rw [kvI_len, List.take_length] at hpa
                refine ⟨SK _ _ upd_same, ?_⟩
                have SU := same_unlock hN.at_ SK
                have Dv : D ≠ n := fun z => by rw [z, upd_same] at hD; cases hD
                have ha2 : upd HK n (.dK (kvI m)) D = some (.lst acc) := (upd_ne Dv).trans ha
                have hpa2 : Paired (PairAt (upd HK n (.dK (kvI m)))) acc m := paired_map (fun x' q hx' => by
                  obtain ⟨t, rfl, ht⟩ := hx'
                  have tv : t ≠ n := fun z => by
                    rw [z, SK _ _ upd_same] at ht
                    cases ht
                  exact ⟨t, rfl, (upd_ne tv).trans ht⟩) hpa
                generalize upd HK n (.dK (kvI m)) = HF at SU ha2 hpa2
                have hN := hN.same SU
                have hW := hW.same SU
                have hT := hT.same SU
                have SH := same_trans SH SU
                clear SU SK hpa ha hD
                walk_at "rd"
                refine ⟨c, D, m, rfl, ⟨acc, ha2, hpa2⟩, hN.sym, by omega, fun p mF HG hpn hF hmF hcF SG => ?_⟩
                have hN := hN.same SG
                have hW := hW.same SG
                have hT := hT.same SG
                have SH := same_trans SH SG
                have hcF : co mF = co m := funext hcF
                clear SG ha2 hpa2 hpn
                obtain ⟨xs, h3, h4⟩ := id hT
                refine gName_go ?_
                walk_at "rd"
                refine fun x dx hx hdx ne => ?_
                have Sx1 := same_new (o := .own x) (fun a u (e : HG a = some u) => e) hdx
                have hxx : upd HG dx (.own x) x = none := (upd_ne ne.symm).trans hx
                have Sx2 := same_new (o := .ins CD dx []) Sx1 hxx
                refine ⟨x, d, l, dx, xs, wm, ts, rfl, upd_same, hW.same Sx2, .inl (SqL.of (Sx2 _ _ h3)), paired_map (fun _ _ q => TripAt.same q Sx2) h4, hOD, fun HH fa fb hDm n1 n2 St => ⟨rfl, ?_⟩⟩
                have SS : Same HG HH := fun a u e => St a u (ne_of_none e hx) (Sx2 a u e)
                have hDm := hDm.dom
                have hN := hN.same SS
                have hW := hW.same SS
                have hT := hT.same SS
                have hF := hF.same SS
                have SH := same_trans SH SS
                clear SS St Sx2 Sx1 hxx hx hdx ne n1 n2 h3 h4
                walk_at "rd"
                refine ⟨n, .dK (kvI m), hN.at_, True.intro, fun od => ?_⟩
                walk_at "rd"
                refine ⟨n, od, rfl, .inl ⟨kvI m, upd_same, fun D hD => lc_it walk_keys (fun i H' => ∃ acc, H' D = some (.lst acc) ∧ Paired (PairAt H') acc (ngm (m.take i)) ∧ acc.length ≤ i ∧ Same (upd HH n (.frz od (.dK (kvI m)))) H') ⟨[], upd_same, .nil, Nat.le_refl _, same_new (fun _ _ e => e) hD⟩ (fun i H' _ ⟨_, _, _, _, s5⟩ => s5 _ _ upd_same) ?_ ?_⟩⟩
                · rintro ji vx H0 HK hji ⟨acc, ha, hpa, hal, SK⟩ ⟨rfl, k0, v0, hkv, rfl⟩
                  rw [kvI_len] at hji
                  obtain ⟨⟨s1, w1⟩, hq', rfl, rfl⟩ := kvI_at hkv
                  have hmm := List.mem_of_getElem? hq'
                  refine ⟨rfl, ?_⟩
                  walk_at "rd"
                  have hg := dget_r (.inr ⟨od, SK _ _ upd_same⟩) hN.nd (List.mem_map.mpr ⟨_, hmm, rfl⟩)
                  rw [co_in hN.nd hmm] at hg
                  refine ⟨n, _, rfl, hg, ?_⟩
                  walk_at "rd"
                  refine ⟨by show 2 ≤ sizeLine; decide, fun t ht => ?_⟩
                  obtain ⟨q1, q2⟩ := push_lc (x := s1) (v := -w1) ha hpa ht
                  refine ⟨acc, q1, Nat.lt_of_lt_of_le (m := 64) (by omega) (by decide), _, upd_same, ?_, by rw [List.length_append]; simp only [List.length_cons, List.length_nil]; omega, same_over (same_new SK ht) hD⟩
                  unfold ngm
                  rw [take_snoc hq', List.map_append]
                  exact q2
                · rintro HK ⟨acc, ha, hpa, hal, SK⟩
                  rw [kvI_len, List.take_length] at hpa
                  refine ⟨SK _ _ upd_same, ?_⟩
                  have SU := same_unlock hN.at_ SK
                  have Dv : D ≠ n := fun z => by rw [z, upd_same] at hD; cases hD
                  have ha2 : upd HK n (.dK (kvI m)) D = some (.lst acc) := (upd_ne Dv).trans ha
                  have hpa2 : Paired (PairAt (upd HK n (.dK (kvI m)))) acc (ngm m) := paired_map (fun x' q hx' => by
                    obtain ⟨t, rfl, ht⟩ := hx'
                    have tv : t ≠ n := fun z => by
                      rw [z, SK _ _ upd_same] at ht
                      cases ht
                    exact ⟨t, rfl, (upd_ne tv).trans ht⟩) hpa
                  generalize upd HK n (.dK (kvI m)) = HI at SU ha2 hpa2
                  obtain ⟨pas, hps, hpp⟩ := pair_addr hpa2
                  have gnd : ((ngm m).map (·.1)).Nodup := by rw [ngm_keys]; exact hN.nd
                  walk_at "rd"
                  refine ⟨D, pas, kvI (ngm m), rfl, SqL.of (by rw [ha2, hps]), paired_map (fun _ _ h => SqT.of h) hpp, fun g hg => ?_⟩
                  rw [show mergeK [] (kvI (ngm m)) = kvI (ngm m) from mergeK_kvI (ngm m) [] gnd]
                  have SM := same_new (o := .dK (kvI (ngm m))) SU hg
                  have hM : DictAt (upd HI g (.dK (kvI (ngm m)))) g (ngm m) := ⟨upd_same, gnd, fun q hq => by
                    obtain ⟨r, hr, rfl⟩ := List.mem_map.mp hq
                    exact hN.sym r hr⟩
                  have dg : d ≠ g := fun z => by
                    have e := SU _ _ hW.at_
                    rw [z, hg] at e
                    cases e
                  generalize upd HI g (.dK (kvI (ngm m))) = HJ at SM hM
                  have hN := hN.same SM
                  have hW := hW.same SM
                  have hT := hT.same SM
                  have hF := hF.same SM
                  have hDm := hDm.same SM
                  have SH := same_trans SH SM
                  clear SM SU hg hpp hps hpa2 ha2 Dv SK hpa ha hD
                  walk_at "rd"
                  refine ⟨d, l, n, c, wm, ts, m, rfl, dn, hW, hT, hOD, hN, fun s => bd_mul hN.nd hBd hOD (by decide) (by decide) _ s, fun HK SK => ?_⟩
                  walk_at "rd"
                  refine ⟨d, l, g, -c, wm, ts, ngm m, rfl, dg, hW.same SK, hT.same SK, hOD, hM.same SK, fun s => bd_mul gnd (ngm_bd hBd) hOD (by decide) (by decide) _ s, fun HL SL => ?_⟩
                  have SM := same_trans SK SL
                  have hN := hN.same SM
                  have hW := hW.same SM
                  have hT := hT.same SM
                  have hF := hF.same SM
                  have hDm := hDm.same SM
                  have SH := same_trans SH SM
                  clear SM SK SL hM dg gnd
                  rw [show co (ngm m) = fun s => -co m s from funext fun s => co_ngm s m]
                  dsimp only
                  refine ⟨_, _, rfl, ?_⟩
                  refine seq_cutS (fun σ' H' => ∃ (o15 : Option V), σ' = [some (.ref a), some (.int (0 + (i : Int))), some (.ref b), some (.ref d), some (.ref l), some (.ref n), o6, o7, some (.ref p), some (.ref x), some (.ref g), o11, some (.int c), some (.ref lp), some (oV (leastD (co m) c wm ts)), o15, o16, o17, o18, o19] ∧ DictAt H' n m ∧ WAt H' d wm ∧ TripsAt H' l ts ∧ FormAt C H' p c mF ∧ DomAt CD H' x wm ts ∧ Same H H') (fun σ' HM hM => ?_) (fun fin => ?_)
                  · obtain ⟨o15, rfl, hN, hW, hT, hF, hDm, SH⟩ := hM
                    have f1 := hOD.few.1
                    have f2 := hOD.few.2
                    walk_at "rd"
                    refine ⟨by show 5 ≤ sizeLine; decide, fun cl hcl => ?_⟩
                    have Sc := same_new (o := .lst [.int 0, .int 1, .int 2, .int 7, .int (10 ^ 20)]) (fun a u (e : HM a = some u) => e) hcl
                    have hcl2 : upd HM cl (.lst [.int 0, .int 1, .int 2, .int 7, .int (10 ^ 20)]) cl = some (.lst [.int 0, .int 1, .int 2, .int 7, .int (10 ^ 20)]) := upd_same
                    have hN := hN.same Sc
                    have hW := hW.same Sc
                    have hT := hT.same Sc
                    have hF := hF.same Sc
                    have hDm := hDm.same Sc
                    have SH := same_trans SH Sc
                    refine ⟨cl, rfl, ⟨_, SqL.of hcl2⟩, for_list (a := cl) (xs := [.int 0, .int 1, .int 2, .int 7, .int (10 ^ 20)]) (fun j σ H' => ∃ (o11 o16 o17 : Option V), σ = [some (.ref a), some (.int (0 + (i : Int))), some (.ref b), some (.ref d), some (.ref l), some (.ref n), o6, o7, some (.ref p), some (.ref x), some (.ref g), o11, some (.int c), some (.ref lp), some (oV (leastD (co m) c wm ts)), o15, o16, o17, o18, o19] ∧ Same (upd HM cl (.lst [.int 0, .int 1, .int 2, .int 7, .int (10 ^ 20)])) H') ⟨_, _, _, rfl, fun _ _ e => e⟩ (fun j σ H' _ ⟨_, _, _, _, s5⟩ => SqL.of (s5 _ _ hcl2)) ?_ ?_⟩
                    · rintro j vy σ HG hj ⟨o11, o16, o17, rfl, SG⟩
                      obtain ⟨sz, rfl, z0, z1⟩ : ∃ sz : Int, vy = .int sz ∧ 0 ≤ sz ∧ sz ≤ 10 ^ 20 := by
                        have hv := List.mem_of_getElem? hj
                        simp only [List.mem_cons, List.not_mem_nil, or_false] at hv
                        rcases hv with e | e | e | e | e
                        all_goals exact ⟨_, e, by decide, by decide⟩
                      have hN := hN.same SG
                      have hW := hW.same SG
                      have hT := hT.same SG
                      have hDm := hDm.same SG
                      walk_at "rd"
                      refine ⟨d, l, n, sz, wm, ts, m, rfl, hW, hT, hOD, hN, fun v H1 hv hV S1 => ?_⟩
                      have vn : v ≠ n := fun e => by
                        rw [e, hN.at_] at hv
                        cases hv
                      walk_at "rd"
                      refine ⟨c, n, v, m, _, rfl, vn, hN.same S1, hV, fun s => bd_mul hN.nd hBd hOD z0 z1 _ s, fun H2 S2 => ?_⟩
                      have hDm := (hDm.same S1).same S2
                      obtain ⟨dx, e1, e2, hx1, _⟩ := id hDm
                      have hlen : (atM (co m) wm ts sz).length ≤ 32 := by
                        unfold atM
                        rw [List.length_append, List.length_map, List.length_map]
                        omega
                      walk_at "rd"
                      refine ⟨x, dx, _, rfl, hx1, ?_⟩
                      refine ⟨x, v, wm, ts, _, rfl, hDm, hOD, hV.same S2, hlen, fun bb HF hbb SF => ⟨bb, rfl, ?_⟩⟩
                      rw [hbb.mpr (fit_at hOD z0)]
                      have SS := same_trans (same_trans (same_trans SG S1) S2) SF
                      refine ⟨_, rfl, ?_⟩
                      refine ite2 (fun h => (by cases h)) (fun _ => ?_)
                      cases hL : leastD (co m) c wm ts with
                      | none =>
                        walk_at "rd"
                        refine ite2 (fun h => absurd h (by simp [oV])) (fun _ => ?_)
                        exact ⟨_, _, _, rfl, SS⟩
                      | some z =>
                        have hle := least_le hOD z0 hL
                        walk_at "rd"
                        refine ite2 (fun h => absurd (of_decide_eq_true h) (by omega)) (fun _ => ?_)
                        exact ⟨_, _, _, rfl, SS⟩
                    · rintro σ HG ⟨o11, o16, o17, rfl, SG⟩
                      have hF := hF.same SG
                      have hDm := hDm.same SG
                      obtain ⟨dx, e1, e2, hx1, _⟩ := id hDm
                      walk_at "rd"
                      refine ⟨x, dx, _, rfl, hx1, rfl, ?_⟩
                      walk_at "rd"
                      refine ⟨x, p, c, mF, wm, ts, rfl, hDm, hF, hOD.few.1, hOD.few.2, fun HQ SQ => ?_⟩
                      rw [hcF]
                      walk_at "rd"
                      refine ⟨scal_oV _, ?_⟩
                      rw [decide_eq_true rfl]
                      refine ⟨_, rfl, ?_⟩
                      refine ite2 (fun h => (by cases h)) (fun _ => ?_)
                      exact ⟨_, _, _, _, _, _, _, _, _, _, _, _, _, _, _, _, _, _, _, rfl, same_trans (same_trans SH SG) SQ⟩
                  · obtain ⟨dx, e1, e2, hx1, _⟩ := id hDm
                    walk_at "rd"
                    refine ⟨x, dx, _, rfl, hx1, rfl, ?_⟩
                    walk_at "rd"
                    refine ⟨x, p, c, mF, wm, ts, rfl, hDm, hF, hOD.few.1, hOD.few.2, fun HM SM => ?_⟩
                    rw [hcF]
                    walk_at "rd"
                    refine ⟨scal_oV _, ?_⟩
                    rw [decide_eq_true rfl]
                    have hN := hN.same SM
                    have hW := hW.same SM
                    have hT := hT.same SM
                    have hF := hF.same SM
                    have hDm := hDm.same SM
                    have SH := same_trans SH SM
                    clear SM hx1
                    obtain ⟨dx, e1, e2, hx1, _⟩ := id hDm
                    refine ⟨_, rfl, ?_⟩
                    refine ite2 (fun h => (by cases h)) (fun _ => ?_)
                    walk_at "rd"
                    refine ⟨x, dx, _, rfl, hx1, rfl, ?_⟩
                    walk_at "rd"
                    refine ⟨x, p, c, mF, wm, ts, rfl, hDm, hF, by omega, hOD.few.1, hOD.few.2, fun HM SM => ?_⟩
                    rw [hcF]
                    have hN := hN.same SM
                    have hW := hW.same SM
                    have hT := hT.same SM
                    have hF := hF.same SM
                    have hDm := hDm.same SM
                    have SH := same_trans SH SM
                    cases hL : leastD (fun s => -co m s) (-c) wm ts with
                    | none =>
                      refine ⟨_, rfl, ?_⟩
                      refine ⟨rfl, ?_⟩
                      refine ⟨_, rfl, ?_⟩
                      refine ⟨rfl, ?_⟩
                      refine ⟨_, rfl, ?_⟩
                      exact fin _ _ ⟨_, rfl, hN, hW, hT, hF, hDm, SH⟩
                    | some z =>
                      walk_at "rd"
                      refine ite2 (fun h => absurd h (by simp [oV])) (fun _ => ?_)
                      exact fin _ _ ⟨_, rfl, hN, hW, hT, hF, hDm, SH⟩
    · rintro σ H' ⟨o1, o2, o3, o4, o5, o6, o7, o8, o9, o10, o11, o12, o13, o14, o15, o16, o17, o18, o19, rfl, S⟩
      walk_at "rd"
      exact k _
end
end Ow

set_option Elab.async false
set_option linter.all false
set_option maxRecDepth 100000
set_option maxHeartbeats 8000000
namespace Ow
open PySem PySem.Spec PyProof.Rows L2
theorem all_mk {l : PySem.W.OpenLaw} {w : World} {K : PySem.W.Frag} {h : Heap} {mg : Str → Option Value} {fa : Addr} (X : K.In h) (G : h.Ns mainGlobals mg) (hfa : mg "law" = some (.ref fa))
    {f0 : Addr} {od0 an0 : Option Addr} {sl0 : Array (Option Value)} {oc0 kV0 dc0 pm0 cd0 ct0 : Value} {f1 : Addr} {od1 an1 : Option Addr} {sl1 : Array (Option Value)} {oc1 kV1 dc1 pm1 cd1 ct1 : Value} {f2 : Addr} {od2 an2 : Option Addr} {sl2 : Array (Option Value)} {oc2 kV2 dc2 pm2 cd2 ct2 : Value} {f3 : Addr} {od3 an3 : Option Addr} {sl3 : Array (Option Value)} {oc3 kV3 dc3 pm3 cd3 ct3 : Value} {f4 : Addr} {od4 an4 : Option Addr} {sl4 : Array (Option Value)} {oc4 kV4 dc4 pm4 cd4 ct4 : Value} {f5 : Addr} {od5 an5 : Option Addr} {sl5 : Array (Option Value)} {oc5 kV5 dc5 pm5 cd5 ct5 : Value} {f6 : Addr} {od6 an6 : Option Addr} {sl6 : Array (Option Value)} {oc6 kV6 dc6 pm6 cd6 ct6 : Value} {f7 : Addr} {od7 an7 : Option Addr} {sl7 : Array (Option Value)} {oc7 kV7 dc7 pm7 cd7 ct7 : Value} {f8 : Addr} {od8 an8 : Option Addr} {sl8 : Array (Option Value)} {oc8 kV8 dc8 pm8 cd8 ct8 : Value} {f9 : Addr} {od9 an9 : Option Addr} {sl9 : Array (Option Value)} {oc9 kV9 dc9 pm9 cd9 ct9 : Value} {f10 : Addr} {od10 an10 : Option Addr} {sl10 : Array (Option Value)} {oc10 kV10 dc10 pm10 cd10 ct10 : Value} {f11 : Addr} {od11 an11 : Option Addr} {sl11 : Array (Option Value)} {oc11 kV11 dc11 pm11 cd11 ct11 : Value} {f12 : Addr} {od12 an12 : Option Addr} {sl12 : Array (Option Value)} {oc12 kV12 dc12 pm12 cd12 ct12 : Value} {f13 : Addr} {od13 an13 : Option Addr} {sl13 : Array (Option Value)} {oc13 kV13 dc13 pm13 cd13 ct13 : Value} {f14 : Addr} {od14 an14 : Option Addr} {sl14 : Array (Option Value)} {oc14 kV14 dc14 pm14 cd14 ct14 : Value} {f15 : Addr} {od15 an15 : Option Addr} {sl15 : Array (Option Value)} {oc15 kV15 dc15 pm15 cd15 ct15 : Value} {f16 : Addr} {od16 an16 : Option Addr} {sl16 : Array (Option Value)} {oc16 kV16 dc16 pm16 cd16 ct16 : Value} {f17 : Addr} {od17 an17 : Option Addr} {sl17 : Array (Option Value)} {oc17 kV17 dc17 pm17 cd17 ct17 : Value} {f18 : Addr} {od18 an18 : Option Addr} {sl18 : Array (Option Value)} {oc18 kV18 dc18 pm18 cd18 ct18 : Value} {C : Addr} {CD : Addr} {f19 : Addr} {od19 an19 : Option Addr} {sl19 : Array (Option Value)} {oc19 kV19 dc19 pm19 cd19 ct19 : Value} {f20 : Addr} {od20 an20 : Option Addr} {sl20 : Array (Option Value)} {oc20 kV20 dc20 pm20 cd20 ct20 : Value} {f21 : Addr} {od21 an21 : Option Addr} {sl21 : Array (Option Value)} {oc21 kV21 dc21 pm21 cd21 ct21 : Value} {f22 : Addr} {od22 an22 : Option Addr} {sl22 : Array (Option Value)} {oc22 kV22 dc22 pm22 cd22 ct22 : Value} {f23 : Addr} {od23 an23 : Option Addr} {sl23 : Array (Option Value)} {oc23 kV23 dc23 pm23 cd23 ct23 : Value} {f24 : Addr} {od24 an24 : Option Addr} {sl24 : Array (Option Value)} {oc24 kV24 dc24 pm24 cd24 ct24 : Value} {f25 : Addr} {od25 an25 : Option Addr} {sl25 : Array (Option Value)} {oc25 kV25 dc25 pm25 cd25 ct25 : Value} {f26 : Addr} {od26 an26 : Option Addr} {sl26 : Array (Option Value)} {oc26 kV26 dc26 pm26 cd26 ct26 : Value} {f27 : Addr} {od27 an27 : Option Addr} {sl27 : Array (Option Value)} {oc27 kV27 dc27 pm27 cd27 ct27 : Value} {f28 : Addr} {od28 an28 : Option Addr} {sl28 : Array (Option Value)} {oc28 kV28 dc28 pm28 cd28 ct28 : Value} {t_LETTERS : Tok} {t_DIGITS : Tok} {t_MOST_LETTERS : Tok} {t_MOST_DIGITS : Tok} {pOf fOf : Addr} {rest : List Value} {od90 an90 : Option Addr} {sl90 : Array (Option Value)} {oc90 kV90 dc90 pm90 cd90 ct90 : Value} {T0 : Addr} {ocT : Value} {odT : Option Addr} {nT : Nat} {slT : Array (Option Value)} {tT : Tok} {f91 : Addr} {od91 an91 : Option Addr} {sl91 : Array (Option Value)} {oc91 kV91 dc91 pm91 cd91 ct91 : Value} {foMul roMul : Option Value} {gMul : Addr} {AL AR Z0 : Addr}  {odL odR : Option Addr} {nL nR : Nat} {slL slR : Array (Option Value)} {tL1 tL2 tL3 tR1 tR2 : Tok} {f92 : Addr} {od92 an92 : Option Addr} {sl92 : Array (Option Value)} {oc92 kV92 dc92 pm92 cd92 ct92 : Value} {T1 : Addr} {ocU : Value} {odU : Option Addr} {nU : Nat} {slU : Array (Option Value)}
    (a0 : PySem.W.nsIn K mainGlobals "_law_bag" = some (some (.ref f0)))
    (l0 : K.lookup f0 = some ⟨oc0, od0, .func (PySem.W.fnOf "_law_bag" "_law_bag" (defArgs s_law_bag) (defBody s_law_bag) (defScope s_law_bag) .none kV0 dc0 pm0 an0 cd0 ct0), sl0⟩)
    (c0 : PySem.W.codeIn K cd0 "_law_bag" = true)
    (k0 : PySem.W.keepIn K (.ref f0) = true)
    (a1 : PySem.W.nsIn K mainGlobals "_law_take" = some (some (.ref f1)))
    (l1 : K.lookup f1 = some ⟨oc1, od1, .func (PySem.W.fnOf "_law_take" "_law_take" (defArgs s_law_take) (defBody s_law_take) (defScope s_law_take) .none kV1 dc1 pm1 an1 cd1 ct1), sl1⟩)
    (c1 : PySem.W.codeIn K cd1 "_law_take" = true)
    (k1 : PySem.W.keepIn K (.ref f1) = true)
    (a2 : PySem.W.nsIn K mainGlobals "_law_number" = some (some (.ref f2)))
    (l2 : K.lookup f2 = some ⟨oc2, od2, .func (PySem.W.fnOf "_law_number" "_law_number" (defArgs s_law_number) (defBody s_law_number) (defScope s_law_number) .none kV2 dc2 pm2 an2 cd2 ct2), sl2⟩)
    (c2 : PySem.W.codeIn K cd2 "_law_number" = true)
    (k2 : PySem.W.keepIn K (.ref f2) = true)
    (a3 : PySem.W.nsIn K mainGlobals "_law_symbol" = some (some (.ref f3)))
    (l3 : K.lookup f3 = some ⟨oc3, od3, .func (PySem.W.fnOf "_law_symbol" "_law_symbol" (defArgs s_law_symbol) (defBody s_law_symbol) (defScope s_law_symbol) .none kV3 dc3 pm3 an3 cd3 ct3), sl3⟩)
    (c3 : PySem.W.codeIn K cd3 "_law_symbol" = true)
    (k3 : PySem.W.keepIn K (.ref f3) = true)
    (a4 : PySem.W.nsIn K mainGlobals "_law_pairs" = some (some (.ref f4)))
    (l4 : K.lookup f4 = some ⟨oc4, od4, .func (PySem.W.fnOf "_law_pairs" "_law_pairs" (defArgs s_law_pairs) (defBody s_law_pairs) (defScope s_law_pairs) .none kV4 dc4 pm4 an4 cd4 ct4), sl4⟩)
    (c4 : PySem.W.codeIn K cd4 "_law_pairs" = true)
    (k4 : PySem.W.keepIn K (.ref f4) = true)
    (a5 : PySem.W.nsIn K mainGlobals "_law_sums" = some (some (.ref f5)))
    (l5 : K.lookup f5 = some ⟨oc5, od5, .func (PySem.W.fnOf "_law_sums" "_law_sums" (defArgs s_law_sums) (defBody s_law_sums) (defScope s_law_sums) .none kV5 dc5 pm5 an5 cd5 ct5), sl5⟩)
    (c5 : PySem.W.codeIn K cd5 "_law_sums" = true)
    (k5 : PySem.W.keepIn K (.ref f5) = true)
    (a6 : PySem.W.nsIn K mainGlobals "_law_of" = some (some (.ref f6)))
    (l6 : K.lookup f6 = some ⟨oc6, od6, .func (PySem.W.fnOf "_law_of" "_law_of" (defArgs s_law_of) (defBody s_law_of) (defScope s_law_of) .none kV6 dc6 pm6 an6 cd6 ct6), sl6⟩)
    (c6 : PySem.W.codeIn K cd6 "_law_of" = true)
    (k6 : PySem.W.keepIn K (.ref f6) = true)
    (a7 : PySem.W.nsIn K mainGlobals "_law_lengths" = some (some (.ref f7)))
    (l7 : K.lookup f7 = some ⟨oc7, od7, .func (PySem.W.fnOf "_law_lengths" "_law_lengths" (defArgs s_law_lengths) (defBody s_law_lengths) (defScope s_law_lengths) .none kV7 dc7 pm7 an7 cd7 ct7), sl7⟩)
    (c7 : PySem.W.codeIn K cd7 "_law_lengths" = true)
    (k7 : PySem.W.keepIn K (.ref f7) = true)
    (a8 : PySem.W.nsIn K mainGlobals "_law_rounds" = some (some (.ref f8)))
    (l8 : K.lookup f8 = some ⟨oc8, od8, .func (PySem.W.fnOf "_law_rounds" "_law_rounds" (defArgs s_law_rounds) (defBody s_law_rounds) (defScope s_law_rounds) .none kV8 dc8 pm8 an8 cd8 ct8), sl8⟩)
    (c8 : PySem.W.codeIn K cd8 "_law_rounds" = true)
    (k8 : PySem.W.keepIn K (.ref f8) = true)
    (a9 : PySem.W.nsIn K mainGlobals "_law_at" = some (some (.ref f9)))
    (l9 : K.lookup f9 = some ⟨oc9, od9, .func (PySem.W.fnOf "_law_at" "_law_at" (defArgs s_law_at) (defBody s_law_at) (defScope s_law_at) .none kV9 dc9 pm9 an9 cd9 ct9), sl9⟩)
    (c9 : PySem.W.codeIn K cd9 "_law_at" = true)
    (k9 : PySem.W.keepIn K (.ref f9) = true)
    (a10 : PySem.W.nsIn K mainGlobals "_law_total" = some (some (.ref f10)))
    (l10 : K.lookup f10 = some ⟨oc10, od10, .func (PySem.W.fnOf "_law_total" "_law_total" (defArgs s_law_total) (defBody s_law_total) (defScope s_law_total) .none kV10 dc10 pm10 an10 cd10 ct10), sl10⟩)
    (c10 : PySem.W.codeIn K cd10 "_law_total" = true)
    (k10 : PySem.W.keepIn K (.ref f10) = true)
    (a11 : PySem.W.nsIn K mainGlobals "_law_slope" = some (some (.ref f11)))
    (l11 : K.lookup f11 = some ⟨oc11, od11, .func (PySem.W.fnOf "_law_slope" "_law_slope" (defArgs s_law_slope) (defBody s_law_slope) (defScope s_law_slope) .none kV11 dc11 pm11 an11 cd11 ct11), sl11⟩)
    (c11 : PySem.W.codeIn K cd11 "_law_slope" = true)
    (k11 : PySem.W.keepIn K (.ref f11) = true)
    (a12 : PySem.W.nsIn K mainGlobals "_law_least" = some (some (.ref f12)))
    (l12 : K.lookup f12 = some ⟨oc12, od12, .func (PySem.W.fnOf "_law_least" "_law_least" (defArgs s_law_least) (defBody s_law_least) (defScope s_law_least) .none kV12 dc12 pm12 an12 cd12 ct12), sl12⟩)
    (c12 : PySem.W.codeIn K cd12 "_law_least" = true)
    (k12 : PySem.W.keepIn K (.ref f12) = true)
    (a13 : PySem.W.nsIn K mainGlobals "law" = some (some (.ref f13)))
    (l13 : K.lookup f13 = some ⟨oc13, od13, .func (PySem.W.fnOf "law" "law" (defArgs s_law) (defBody s_law) (defScope s_law) .none kV13 dc13 pm13 an13 cd13 ct13), sl13⟩)
    (c13 : PySem.W.codeIn K cd13 "law" = true)
    (k13 : PySem.W.keepIn K (.ref f13) = true)
    (a14 : PySem.W.nsIn K mainGlobals "is_list_name" = some (some (.ref f14)))
    (l14 : K.lookup f14 = some ⟨oc14, od14, .func (PySem.W.fnOf "is_list_name" "is_list_name" (defArgs s_is_list_name) (defBody s_is_list_name) (defScope s_is_list_name) .none kV14 dc14 pm14 an14 cd14 ct14), sl14⟩)
    (c14 : PySem.W.codeIn K cd14 "is_list_name" = true)
    (k14 : PySem.W.keepIn K (.ref f14) = true)
    (a15 : PySem.W.nsIn K mainGlobals "is_round_symbol" = some (some (.ref f15)))
    (l15 : K.lookup f15 = some ⟨oc15, od15, .func (PySem.W.fnOf "is_round_symbol" "is_round_symbol" (defArgs s_is_round_symbol) (defBody s_is_round_symbol) (defScope s_is_round_symbol) .none kV15 dc15 pm15 an15 cd15 ct15), sl15⟩)
    (c15 : PySem.W.codeIn K cd15 "is_round_symbol" = true)
    (k15 : PySem.W.keepIn K (.ref f15) = true)
    (a16 : PySem.W.nsIn K mainGlobals "is_symbol" = some (some (.ref f16)))
    (l16 : K.lookup f16 = some ⟨oc16, od16, .func (PySem.W.fnOf "is_symbol" "is_symbol" (defArgs s_is_symbol) (defBody s_is_symbol) (defScope s_is_symbol) .none kV16 dc16 pm16 an16 cd16 ct16), sl16⟩)
    (c16 : PySem.W.codeIn K cd16 "is_symbol" = true)
    (k16 : PySem.W.keepIn K (.ref f16) = true)
    (a17 : PySem.W.nsIn K mainGlobals "fits_length" = some (some (.ref f17)))
    (l17 : K.lookup f17 = some ⟨oc17, od17, .func (PySem.W.fnOf "fits_length" "fits_length" (defArgs s_fits_length) (defBody s_fits_length) (defScope s_fits_length) .none kV17 dc17 pm17 an17 cd17 ct17), sl17⟩)
    (c17 : PySem.W.codeIn K cd17 "fits_length" = true)
    (k17 : PySem.W.keepIn K (.ref f17) = true)
    (a18 : PySem.W.nsIn K mainGlobals "_fits_round" = some (some (.ref f18)))
    (l18 : K.lookup f18 = some ⟨oc18, od18, .func (PySem.W.fnOf "_fits_round" "_fits_round" (defArgs s_fits_round) (defBody s_fits_round) (defScope s_fits_round) .none kV18 dc18 pm18 an18 cd18 ct18), sl18⟩)
    (c18 : PySem.W.codeIn K cd18 "_fits_round" = true)
    (k18 : PySem.W.keepIn K (.ref f18) = true)
    (aC : PySem.W.nsIn K mainGlobals "Form" = some (some (.ref C)))
    (pgC : PySem.W.plainGet K C Str.empty = true)
    (hdC : PySem.W.hasDictIn K C = true)
    (poC : PySem.W.plainOver K C = true)
    (saC : PySem.W.findIn K (.ref C) "__setattr__" = some (some (.builtin "object.__setattr__")))
    (mkC : PySem.W.makesIn K C = true)
    (kcC : PySem.W.keepIn K (.ref C) = true)
    (noCconstant : PySem.W.findIn K (.ref C) "constant" = some none)
    (noC_coefficients : PySem.W.findIn K (.ref C) "_coefficients" = some none)
    (aCD : PySem.W.nsIn K mainGlobals "Domain" = some (some (.ref CD)))
    (pgCD : PySem.W.plainGet K CD Str.empty = true)
    (hdCD : PySem.W.hasDictIn K CD = true)
    (poCD : PySem.W.plainOver K CD = true)
    (saCD : PySem.W.findIn K (.ref CD) "__setattr__" = some (some (.builtin "object.__setattr__")))
    (mkCD : PySem.W.makesIn K CD = true)
    (kcCD : PySem.W.keepIn K (.ref CD) = true)
    (noCD_lengths : PySem.W.findIn K (.ref CD) "_lengths" = some none)
    (noCD_rounds : PySem.W.findIn K (.ref CD) "_rounds" = some none)
    (a19 : PySem.W.findIn K (.ref C) "symbols" = some (some (.ref f19)))
    (l19 : K.lookup f19 = some ⟨oc19, od19, .func (PySem.W.fnOf "symbols" "Form.symbols" (defArgs s_Form_symbols) (defBody s_Form_symbols) (defScope s_Form_symbols) .none kV19 dc19 pm19 an19 cd19 ct19), sl19⟩)
    (c19 : PySem.W.codeIn K cd19 "Form.symbols" = true)
    (k19 : PySem.W.keepIn K (.ref f19) = true)
    (i19 : PySem.W.isFn K (.ref f19) = true)
    (a20 : PySem.W.findIn K (.ref C) "_pairs" = some (some (.ref f20)))
    (l20 : K.lookup f20 = some ⟨oc20, od20, .func (PySem.W.fnOf "_pairs" "Form._pairs" (defArgs s_FormDpairs) (defBody s_FormDpairs) (defScope s_FormDpairs) .none kV20 dc20 pm20 an20 cd20 ct20), sl20⟩)
    (c20 : PySem.W.codeIn K cd20 "Form._pairs" = true)
    (k20 : PySem.W.keepIn K (.ref f20) = true)
    (i20 : PySem.W.isFn K (.ref f20) = true)
    (a21 : PySem.W.findIn K (.ref C) "__mul__" = some (some (.ref f21)))
    (l21 : K.lookup f21 = some ⟨oc21, od21, .func (PySem.W.fnOf "__mul__" "Form.__mul__" (defArgs s_FormD_mulD) (defBody s_FormD_mulD) (defScope s_FormD_mulD) .none kV21 dc21 pm21 an21 cd21 ct21), sl21⟩)
    (c21 : PySem.W.codeIn K cd21 "Form.__mul__" = true)
    (k21 : PySem.W.keepIn K (.ref f21) = true)
    (i21 : PySem.W.isFn K (.ref f21) = true)
    (a22 : PySem.W.findIn K (.ref C) "__neg__" = some (some (.ref f22)))
    (l22 : K.lookup f22 = some ⟨oc22, od22, .func (PySem.W.fnOf "__neg__" "Form.__neg__" (defArgs s_FormD_negD) (defBody s_FormD_negD) (defScope s_FormD_negD) .none kV22 dc22 pm22 an22 cd22 ct22), sl22⟩)
    (c22 : PySem.W.codeIn K cd22 "Form.__neg__" = true)
    (k22 : PySem.W.keepIn K (.ref f22) = true)
    (i22 : PySem.W.isFn K (.ref f22) = true)
    (a23 : PySem.W.findIn K (.ref C) "__getitem__" = some (some (.ref f23)))
    (l23 : K.lookup f23 = some ⟨oc23, od23, .func (PySem.W.fnOf "__getitem__" "Form.__getitem__" (defArgs s_FormD_getitemD) (defBody s_FormD_getitemD) (defScope s_FormD_getitemD) .none kV23 dc23 pm23 an23 cd23 ct23), sl23⟩)
    (c23 : PySem.W.codeIn K cd23 "Form.__getitem__" = true)
    (k23 : PySem.W.keepIn K (.ref f23) = true)
    (i23 : PySem.W.isFn K (.ref f23) = true)
    (a24 : PySem.W.findIn K (.ref CD) "symbols" = some (some (.ref f24)))
    (l24 : K.lookup f24 = some ⟨oc24, od24, .func (PySem.W.fnOf "symbols" "Domain.symbols" (defArgs s_Domain_symbols) (defBody s_Domain_symbols) (defScope s_Domain_symbols) .none kV24 dc24 pm24 an24 cd24 ct24), sl24⟩)
    (c24 : PySem.W.codeIn K cd24 "Domain.symbols" = true)
    (k24 : PySem.W.keepIn K (.ref f24) = true)
    (i24 : PySem.W.isFn K (.ref f24) = true)
    (a25 : PySem.W.findIn K (.ref CD) "__contains__" = some (some (.ref f25)))
    (l25 : K.lookup f25 = some ⟨oc25, od25, .func (PySem.W.fnOf "__contains__" "Domain.__contains__" (defArgs s_DomainD_containsD) (defBody s_DomainD_containsD) (defScope s_DomainD_containsD) .none kV25 dc25 pm25 an25 cd25 ct25), sl25⟩)
    (c25 : PySem.W.codeIn K cd25 "Domain.__contains__" = true)
    (k25 : PySem.W.keepIn K (.ref f25) = true)
    (i25 : PySem.W.isFn K (.ref f25) = true)
    (a26 : PySem.W.findIn K (.ref CD) "_slope" = some (some (.ref f26)))
    (l26 : K.lookup f26 = some ⟨oc26, od26, .func (PySem.W.fnOf "_slope" "Domain._slope" (defArgs s_DomainDslope) (defBody s_DomainDslope) (defScope s_DomainDslope) .none kV26 dc26 pm26 an26 cd26 ct26), sl26⟩)
    (c26 : PySem.W.codeIn K cd26 "Domain._slope" = true)
    (k26 : PySem.W.keepIn K (.ref f26) = true)
    (i26 : PySem.W.isFn K (.ref f26) = true)
    (a27 : PySem.W.findIn K (.ref CD) "least" = some (some (.ref f27)))
    (l27 : K.lookup f27 = some ⟨oc27, od27, .func (PySem.W.fnOf "least" "Domain.least" (defArgs s_Domain_least) (defBody s_Domain_least) (defScope s_Domain_least) .none kV27 dc27 pm27 an27 cd27 ct27), sl27⟩)
    (c27 : PySem.W.codeIn K cd27 "Domain.least" = true)
    (k27 : PySem.W.keepIn K (.ref f27) = true)
    (i27 : PySem.W.isFn K (.ref f27) = true)
    (a28 : PySem.W.findIn K (.ref CD) "greatest" = some (some (.ref f28)))
    (l28 : K.lookup f28 = some ⟨oc28, od28, .func (PySem.W.fnOf "greatest" "Domain.greatest" (defArgs s_Domain_greatest) (defBody s_Domain_greatest) (defScope s_Domain_greatest) .none kV28 dc28 pm28 an28 cd28 ct28), sl28⟩)
    (c28 : PySem.W.codeIn K cd28 "Domain.greatest" = true)
    (k28 : PySem.W.keepIn K (.ref f28) = true)
    (i28 : PySem.W.isFn K (.ref f28) = true)
    (zlen : PySem.W.nsIn K mainGlobals "len" = some none)
    (zabs : PySem.W.nsIn K mainGlobals "abs" = some none)
    (zint : PySem.W.nsIn K mainGlobals "int" = some none)
    (zstr : PySem.W.nsIn K mainGlobals "str" = some none)
    (zmin : PySem.W.nsIn K mainGlobals "min" = some none)
    (zmax : PySem.W.nsIn K mainGlobals "max" = some none)
    (zall : PySem.W.nsIn K mainGlobals "all" = some none)
    (zrange : PySem.W.nsIn K mainGlobals "range" = some none)
    (zsorted : PySem.W.nsIn K mainGlobals "sorted" = some none)
    (zlist : PySem.W.nsIn K mainGlobals "list" = some none)
    (ztuple : PySem.W.nsIn K mainGlobals "tuple" = some none)
    (zdict : PySem.W.nsIn K mainGlobals "dict" = some none)
    (zisinstance : PySem.W.nsIn K mainGlobals "isinstance" = some none)
    (zsum : PySem.W.nsIn K mainGlobals "sum" = some none)
    (zany : PySem.W.nsIn K mainGlobals "any" = some none)
    (v_LETTERS : PySem.W.nsIn K mainGlobals "LETTERS" = some (some (.str "abcdefghijklmnopqrstuvwxyz" t_LETTERS)))
    (v_DIGITS : PySem.W.nsIn K mainGlobals "DIGITS" = some (some (.str "0123456789" t_DIGITS)))
    (v_MOST_LETTERS : PySem.W.nsIn K mainGlobals "MOST_LETTERS" = some (some (.int 3 t_MOST_LETTERS)))
    (v_MOST_DIGITS : PySem.W.nsIn K mainGlobals "MOST_DIGITS" = some (some (.int 60 t_MOST_DIGITS)))
    (rd : PySem.W.readsIn K C (.type "type") = true)
    (ga : PySem.W.specialIn K (.ref C) "__getattribute__" = some (some (.builtin "type.__getattribute__")))
    (cm : PySem.W.findCls K (.ref C) (.type "type") "of" = some (.get (.builtin "classmethod.__get__") (.ref pOf) .none (.ref C)))
    (rc : PySem.W.recIn K pOf "classmethod" = some (.ref fOf :: rest))
    (fi : PySem.W.fnIn K fOf = true)
    (l90 : K.lookup fOf = some ⟨oc90, od90, .func (PySem.W.fnOf "of" "Form.of" (defArgs s_Form_of) (defBody s_Form_of) (defScope s_Form_of) .none kV90 dc90 pm90 an90 cd90 ct90), sl90⟩)
    (c90 : PySem.W.codeIn K cd90 "Form.of" = true)
    (k90 : PySem.W.keepIn K (.ref fOf) = true)
    (a91 : PySem.W.findIn K (.ref C) "__init__" = some (some (.ref f91)))
    (i91 : PySem.W.isFn K (.ref f91) = true)
    (l91 : K.lookup f91 = some ⟨oc91, od91, .func (PySem.W.fnOf "__init__" "Form.__init__" (defArgs s_FormD_initD) (defBody s_FormD_initD) (defScope s_FormD_initD) (.ref T0) kV91 dc91 pm91 an91 cd91 ct91), sl91⟩)
    (c91 : PySem.W.codeIn K cd91 "Form.__init__" = true)
    (k91 : PySem.W.keepIn K (.ref f91) = true)
    (lT : K.lookup T0 = some ⟨ocT, odT, .seq #[Value.int 0 tT] nT, slT⟩)
    (ha : PySem.W.findIn K (.ref C) "__class__" = some (some (.builtin "object.__class__")))
    (xn : PySem.W.specialIn K (.builtin "object.__class__") "__get__" = some (some (.builtin "getset_descriptor.__get__")))
    (xt : PySem.W.takesIn K (.builtin "object.__class__") = some true)
    (hm : PySem.W.mroIn K C (.type "object") = some true)
    (isC : PySem.W.isClsIn K C = true)
    (tyC : PySem.W.typeIn K (.ref C) = some (.type "type"))
    (sf : PySem.W.selfFirst K C = true)
    (sb1 : PySem.W.subIn K (.type "int") (.ref C) = some false)
    (sb2 : PySem.W.subIn K (.ref C) (.type "int") = some false)
    (rMul : PySem.W.findIn K (.ref C) "__rmul__" = some (some (.ref gMul)))
    (iAMul : PySem.W.findIn K (.type "int") "__mul__" = some foMul)
    (iBMul : PySem.W.findIn K (.type "int") "__rmul__" = some roMul)
    (gL : PySem.W.nsIn K mainGlobals "LENGTH_WORDS" = some (some (.ref AL)))
    (gR : PySem.W.nsIn K mainGlobals "ROUND_WORDS" = some (some (.ref AR)))
    (lL : K.lookup AL = some ⟨.type "tuple", odL, .seq #[.str "any" tL1, .str "none" tL2, .str "some" tL3] nL, slL⟩)
    (lR : K.lookup AR = some ⟨.type "tuple", odR, .seq #[.str "first" tR1, .str "any" tR2] nR, slR⟩)
    (a92 : PySem.W.findIn K (.ref CD) "__init__" = some (some (.ref f92)))
    (l92 : K.lookup f92 = some ⟨oc92, od92, .func (PySem.W.fnOf "__init__" "Domain.__init__" (defArgs s_DomainD_initD) (defBody s_DomainD_initD) (defScope s_DomainD_initD) (.ref T1) kV92 dc92 pm92 an92 cd92 ct92), sl92⟩)
    (c92 : PySem.W.codeIn K cd92 "Domain.__init__" = true)
    (k92 : PySem.W.keepIn K (.ref f92) = true)
    (i92 : PySem.W.isFn K (.ref f92) = true)
    (lU : K.lookup T1 = some ⟨ocU, odU, .seq #[.ref Z0] nU, slU⟩)
    (g23 : PySem.W.fnIn K f23 = true)
    (g25 : PySem.W.fnIn K f25 = true)
    : ∃ fd : FuncData, (∀ (s : Shared) (v : Value), BindsTo s fd ⟨[v], []⟩ [("script", v)]) ∧ ∀ base : Heap, K.In base → base.Ns mainGlobals mg → FnOk l.prog w K mg base CX0 9 fa fd ["script"] (spLaw K) := by
  have e := hfa.symm.trans (PySem.W.mg_of X G a13)
  cases e
  have F0 := fun_mk (st := s_law_bag) l0 c0 k0
  have b0 := F0.binds (ps := ["script", "at"]) fun _ _ _ _ _ _ us hl => match us, hl with | [_, _], _ => rfl
  have F1 := fun_mk (st := s_law_take) l1 c1 k1
  have b1 := F1.binds (ps := ["bag", "many"]) fun _ _ _ _ _ _ us hl => match us, hl with | [_, _], _ => rfl
  have F2 := fun_mk (st := s_law_number) l2 c2 k2
  have b2 := F2.binds (ps := ["bag"]) fun _ _ _ _ _ _ us hl => match us, hl with | [_], _ => rfl
  have F3 := fun_mk (st := s_law_symbol) l3 c3 k3
  have b3 := F3.binds (ps := ["bag"]) fun _ _ _ _ _ _ us hl => match us, hl with | [_], _ => rfl
  have F4 := fun_mk (st := s_law_pairs) l4 c4 k4
  have b4 := F4.binds (ps := ["bag", "many"]) fun _ _ _ _ _ _ us hl => match us, hl with | [_, _], _ => rfl
  have F5 := fun_mk (st := s_law_sums) l5 c5 k5
  have b5 := F5.binds (ps := ["pairs"]) fun _ _ _ _ _ _ us hl => match us, hl with | [_], _ => rfl
  have F6 := fun_mk (st := s_law_of) l6 c6 k6
  have b6 := F6.binds (ps := ["bag", "some"]) fun _ _ _ _ _ _ us hl => match us, hl with | [_, _], _ => rfl
  have F7 := fun_mk (st := s_law_lengths) l7 c7 k7
  have b7 := F7.binds (ps := ["bag"]) fun _ _ _ _ _ _ us hl => match us, hl with | [_], _ => rfl
  have F8 := fun_mk (st := s_law_rounds) l8 c8 k8
  have b8 := F8.binds (ps := ["bag", "lengths"]) fun _ _ _ _ _ _ us hl => match us, hl with | [_, _], _ => rfl
  have F9 := fun_mk (st := s_law_at) l9 c9 k9
  have b9 := F9.binds (ps := ["lengths", "rounds", "numbers", "size"]) fun _ _ _ _ _ _ us hl => match us, hl with | [_, _, _, _], _ => rfl
  have F10 := fun_mk (st := s_law_total) l10 c10 k10
  have b10 := F10.binds (ps := ["constant", "numbers", "values"]) fun _ _ _ _ _ _ us hl => match us, hl with | [_, _, _], _ => rfl
  have F11 := fun_mk (st := s_law_slope) l11 c11 k11
  have b11 := F11.binds (ps := ["lengths", "rounds", "numbers", "text"]) fun _ _ _ _ _ _ us hl => match us, hl with | [_, _, _, _], _ => rfl
  have F12 := fun_mk (st := s_law_least) l12 c12 k12
  have b12 := F12.binds (ps := ["lengths", "rounds", "constant", "numbers"]) fun _ _ _ _ _ _ us hl => match us, hl with | [_, _, _, _], _ => rfl
  have F13 := fun_mk (st := s_law) l13 c13 k13
  have b13 := F13.binds (ps := ["script"]) fun _ _ _ _ _ _ us hl => match us, hl with | [_], _ => rfl
  have F14 := fun_mk (st := s_is_list_name) l14 c14 k14
  have b14 := F14.binds (ps := ["text"]) fun _ _ _ _ _ _ us hl => match us, hl with | [_], _ => rfl
  have F15 := fun_mk (st := s_is_round_symbol) l15 c15 k15
  have b15 := F15.binds (ps := ["text"]) fun _ _ _ _ _ _ us hl => match us, hl with | [_], _ => rfl
  have F16 := fun_mk (st := s_is_symbol) l16 c16 k16
  have b16 := F16.binds (ps := ["text"]) fun _ _ _ _ _ _ us hl => match us, hl with | [_], _ => rfl
  have F17 := fun_mk (st := s_fits_length) l17 c17 k17
  have b17 := F17.binds (ps := ["word", "length"]) fun _ _ _ _ _ _ us hl => match us, hl with | [_, _], _ => rfl
  have F18 := fun_mk (st := s_fits_round) l18 c18 k18
  have b18 := F18.binds (ps := ["word", "done", "length"]) fun _ _ _ _ _ _ us hl => match us, hl with | [_, _, _], _ => rfl
  have clC : Cls K C := ⟨pgC, hdC, poC, saC⟩
  have hC := PySem.W.mg_of X G aC
  have clCD : Cls K CD := ⟨pgCD, hdCD, poCD, saCD⟩
  have hCD := PySem.W.mg_of X G aCD
  have F19 := fun_mk (st := s_Form_symbols) l19 c19 k19
  have b19 := F19.binds (ps := ["self"]) fun _ _ _ _ _ _ us hl => match us, hl with | [_], _ => rfl
  have F20 := fun_mk (st := s_FormDpairs) l20 c20 k20
  have b20 := F20.binds (ps := ["self"]) fun _ _ _ _ _ _ us hl => match us, hl with | [_], _ => rfl
  have F21 := fun_mk (st := s_FormD_mulD) l21 c21 k21
  have b21 := F21.binds (ps := ["self", "other"]) fun _ _ _ _ _ _ us hl => match us, hl with | [_, _], _ => rfl
  have F22 := fun_mk (st := s_FormD_negD) l22 c22 k22
  have b22 := F22.binds (ps := ["self"]) fun _ _ _ _ _ _ us hl => match us, hl with | [_], _ => rfl
  have F23 := fun_mk (st := s_FormD_getitemD) l23 c23 k23
  have b23 := F23.binds (ps := ["self", "at"]) fun _ _ _ _ _ _ us hl => match us, hl with | [_, _], _ => rfl
  have F24 := fun_mk (st := s_Domain_symbols) l24 c24 k24
  have b24 := F24.binds (ps := ["self"]) fun _ _ _ _ _ _ us hl => match us, hl with | [_], _ => rfl
  have F25 := fun_mk (st := s_DomainD_containsD) l25 c25 k25
  have b25 := F25.binds (ps := ["self", "x"]) fun _ _ _ _ _ _ us hl => match us, hl with | [_, _], _ => rfl
  have F26 := fun_mk (st := s_DomainDslope) l26 c26 k26
  have b26 := F26.binds (ps := ["self", "form", "name"]) fun _ _ _ _ _ _ us hl => match us, hl with | [_, _, _], _ => rfl
  have F27 := fun_mk (st := s_Domain_least) l27 c27 k27
  have b27 := F27.binds (ps := ["self", "form"]) fun _ _ _ _ _ _ us hl => match us, hl with | [_, _], _ => rfl
  have F28 := fun_mk (st := s_Domain_greatest) l28 c28 k28
  have b28 := F28.binds (ps := ["self", "form"]) fun _ _ _ _ _ _ us hl => match us, hl with | [_, _], _ => rfl
  have T : Txt mg := ⟨PySem.W.mg_none_of X G zlen, PySem.W.mg_none_of X G zabs, PySem.W.mg_none_of X G zint, PySem.W.mg_none_of X G zstr, PySem.W.mg_none_of X G zmin, PySem.W.mg_none_of X G zmax, PySem.W.mg_none_of X G zall, PySem.W.mg_none_of X G zrange, PySem.W.mg_none_of X G zsorted, PySem.W.mg_none_of X G zlist, PySem.W.mg_none_of X G ztuple, PySem.W.mg_none_of X G zdict, PySem.W.mg_none_of X G zisinstance, PySem.W.mg_none_of X G zsum, ⟨_, PySem.W.mg_of X G v_LETTERS⟩, ⟨_, PySem.W.mg_of X G v_DIGITS⟩, ⟨_, PySem.W.mg_of X G v_MOST_LETTERS⟩, ⟨_, PySem.W.mg_of X G v_MOST_DIGITS⟩⟩
  have TA : TxtA mg := ⟨T, PySem.W.mg_none_of X G zany⟩
  have RD : DomK K CD := ⟨clCD, noCD_lengths, noCD_rounds⟩
  have F90 := fun_mk (st := s_Form_of) l90 c90 k90
  have b90 := F90.binds (ps := ["cls", "constant", "pairs"]) fun _ _ _ _ _ _ us hl => match us, hl with | [_, _, _], _ => rfl
  have F91 : FunD K "__init__" "Form.__init__" (defArgs s_FormD_initD) (defBody s_FormD_initD) (defScope s_FormD_initD) [.int 0] [] f91 _ := ⟨⟨oc91, od91, .ref T0, kV91, dc91, pm91, an91, cd91, ct91, sl91, rfl, l91, c91, .inr ⟨by simp, T0, _, [Value.int 0 tT], nT, rfl, lT, rfl, .cons ⟨tT, rfl⟩ .nil⟩, .inl rfl⟩, k91⟩
  have M : Mk K C f91 := ⟨mkC, a91, i91, kcC⟩
  have i1 : PySem.W.kitOne K (.ref C) (.type "int") = some false := by
    unfold PySem.W.kitOne PySem.W.kitCls
    rw [if_neg (by simp)]
    show (if PySem.W.kitMeta "int" = true then PySem.W.subIn K (.ref C) (.type "int") else none) = some false
    rw [if_pos (by decide +kernel)]
    exact sb2
  have i2 : PySem.W.kitOne K (.type "int") (.ref C) = some false := by
    unfold PySem.W.kitOne PySem.W.kitCls
    rw [if_neg (by simp)]
    show (if ((PySem.W.clsIn K C).isSome && PySem.W.typeIn K (.ref C) == some (.type "type")) = true then PySem.W.subIn K (.type "int") (.ref C) else none) = some false
    rw [if_pos (by rw [tyC, show (PySem.W.clsIn K C).isSome = true from isC]; simp)]
    exact sb1
  have R : FormK K C := ⟨clC, noCconstant, noC_coefficients, ha, xn, xt, hm, i1, i2⟩
  have D : DTx K mg AL AR := ⟨PySem.W.mg_of X G gL, PySem.W.mg_of X G gR, fun _ => .inr ⟨_, _, _, lL, rfl, rfl, by show 3 ≤ sizeLine; decide, .cons ⟨_, rfl⟩ (.cons ⟨_, rfl⟩ (.cons ⟨_, rfl⟩ .nil))⟩, fun _ => .inr ⟨_, _, _, lR, rfl, rfl, by show 2 ≤ sizeLine; decide, .cons ⟨_, rfl⟩ (.cons ⟨_, rfl⟩ .nil)⟩⟩
  have F92 : FunD K "__init__" "Domain.__init__" (defArgs s_DomainD_initD) (defBody s_DomainD_initD) (defScope s_DomainD_initD) [.ref Z0] [] f92 _ := ⟨⟨oc92, od92, .ref T1, kV92, dc92, pm92, an92, cd92, ct92, sl92, rfl, l92, c92, .inr ⟨by simp, T1, _, [Value.ref Z0], nU, rfl, lU, rfl, .cons rfl .nil⟩, .inl rfl⟩, k92⟩
  obtain ⟨ds2, vd2, bd2⟩ := F92.binds1 (ps := ["self", "lengths", "rounds"]) 3 1 (by simp) rfl (fun T kV doc pm an cdv ct us its hu hi => match us, its, hu, hi with | [_, _, _], [_], _, _ => ⟨_, rfl, rfl⟩)
  have MD : Mk K CD f92 := ⟨mkCD, a92, i92, kcCD⟩
  have c_bag : ∀ base : Heap, Cal l.prog w K mg base "_law_bag" 1 (spBag K) := fun base => ⟨_, _, _, PySem.W.mg_of X G a0, ok_bag F0 T, b0, k0⟩
  have c_take : ∀ base : Heap, Cal l.prog w K mg base "_law_take" 1 spTake := fun base => ⟨_, _, _, PySem.W.mg_of X G a1, ok_take F1 T, b1, k1⟩
  have c_number : ∀ base : Heap, Cal l.prog w K mg base "_law_number" 2 spNumber := fun base => ⟨_, _, _, PySem.W.mg_of X G a2, ok_number F2 T (c_take base), b2, k2⟩
  have c_symbol : ∀ base : Heap, Cal l.prog w K mg base "_law_symbol" 2 spSymbol := fun base => ⟨_, _, _, PySem.W.mg_of X G a3, ok_symbol F3 T (c_take base), b3, k3⟩
  have c_pairs : ∀ base : Heap, Cal l.prog w K mg base "_law_pairs" 3 spPairs := fun base => ⟨_, _, _, PySem.W.mg_of X G a4, ok_pairs F4 T (c_take base) (c_number base) (c_symbol base), b4, k4⟩
  have c_sums : ∀ base : Heap, Cal l.prog w K mg base "_law_sums" 1 spSums := fun base => ⟨_, _, _, PySem.W.mg_of X G a5, ok_sums F5 T, b5, k5⟩
  have c_pick : ∀ base : Heap, Cal l.prog w K mg base "_law_of" 2 spPick := fun base => ⟨_, _, _, PySem.W.mg_of X G a6, ok_pick F6 T (c_take base), b6, k6⟩
  have c_isl : ∀ base : Heap, Cal l.prog w K mg base "is_list_name" 1 spIsL := fun base => ⟨_, _, _, PySem.W.mg_of X G a14, ok_isl F14 T, b14, k14⟩
  have c_isr : ∀ base : Heap, Cal l.prog w K mg base "is_round_symbol" 1 spIsR := fun base => ⟨_, _, _, PySem.W.mg_of X G a15, ok_isr F15 T, b15, k15⟩
  have c_iss : ∀ base : Heap, Cal l.prog w K mg base "is_symbol" 2 spIsS := fun base => ⟨_, _, _, PySem.W.mg_of X G a16, ok_iss F16 T (c_isl base) (c_isr base), b16, k16⟩
  have c_fitl : ∀ base : Heap, Cal l.prog w K mg base "fits_length" 1 spFitL := fun base => ⟨_, _, _, PySem.W.mg_of X G a17, ok_fitl F17 T, b17, k17⟩
  have c_fitr : ∀ base : Heap, Cal l.prog w K mg base "_fits_round" 1 spFitR := fun base => ⟨_, _, _, PySem.W.mg_of X G a18, ok_fitr F18 T, b18, k18⟩
  have c_lengths : ∀ base : Heap, Cal l.prog w K mg base "_law_lengths" 3 spLengths := fun base => ⟨_, _, _, PySem.W.mg_of X G a7, ok_lengths F7 T (c_take base) (c_pick base), b7, k7⟩
  have c_rounds : ∀ base : Heap, Cal l.prog w K mg base "_law_rounds" 3 spRounds := fun base => ⟨_, _, _, PySem.W.mg_of X G a8, ok_rounds F8 T (c_take base) (c_pick base), b8, k8⟩
  have c_at : ∀ base : Heap, Cal l.prog w K mg base "_law_at" 1 spAt := fun base => ⟨_, _, _, PySem.W.mg_of X G a9, ok_at F9 T, b9, k9⟩
  have c_total : ∀ base : Heap, Cal l.prog w K mg base "_law_total" 1 spTotal := fun base => ⟨_, _, _, PySem.W.mg_of X G a10, ok_total F10 T, b10, k10⟩
  have c_lslope : ∀ base : Heap, Cal l.prog w K mg base "_law_slope" 1 spLSlope := fun base => ⟨_, _, _, PySem.W.mg_of X G a11, ok_lslope F11 T, b11, k11⟩
  have c_lleast : ∀ base : Heap, Cal l.prog w K mg base "_law_least" 2 spLLeast := fun base => ⟨_, _, _, PySem.W.mg_of X G a12, ok_lleast F12 TA (c_lslope base) (c_total base) (c_at base), b12, k12⟩
  have c_init : ∀ base : Heap, KwX.KwOk l.prog w K mg base 3 f91 (.int 0) (spInit C) := fun base => ok_init F91 T R (c_iss base)
  have c_of : ∀ base : Heap, CalC l.prog w K mg base C "of" 5 (spOf C) := fun base => ⟨.type "type", pOf, fOf, ⟨rd, ga⟩, ⟨cm, ⟨rest, rc⟩, fi⟩, by
    have z := FnOk.raw (ok_of (base := base) (w := w) (P := l.prog) F90 T R M hC (c_init base) (c_iss base)) b90 .nil
    refine z.imp fun vs H Q E h => ?_
    rw [List.append_nil]
    exact h⟩
  have c_symbols : ∀ base : Heap, CalM l.prog w K mg base C "symbols" 1 (spSymbols C) := fun base => ⟨clC, _, _, _, ⟨a19, i19, k19⟩, ok_symbols F19 T R, b19⟩
  have c_fpairs : ∀ base : Heap, CalM l.prog w K mg base C "_pairs" 2 (spFPairs C) := fun base => ⟨clC, _, _, _, ⟨a20, i20, k20⟩, ok_fpairs F20 T R (c_symbols base), b20⟩
  have c_mul : ∀ base : Heap, CalO l.prog w K mg base C .Mult 6 (spMul C) := fun base => ⟨_, _, _, ⟨sf, a21, i21, ⟨_, rMul, .inr ⟨_, rfl⟩⟩, ⟨_, iAMul⟩, ⟨_, iBMul⟩, sb1⟩, ok_mul F21 T R hC (c_of base) (c_fpairs base), b21⟩
  have c_neg : ∀ base : Heap, CalU l.prog w K mg base C 7 (spNeg C) := fun base => ⟨_, _, _, a22, i22, ok_neg F22 T R (c_mul base), b22⟩
  have c_get : ∀ base : Heap, OpX.CalG l.prog w K mg base C "__getitem__" 1 (spGet C) := fun base => ⟨_, _, _, a23, i23, g23, ok_get F23 T R, b23⟩
  have c_dsyms : ∀ base : Heap, CalM l.prog w K mg base CD "symbols" 1 (spDSyms CD) := fun base => ⟨clCD, _, _, _, ⟨a24, i24, k24⟩, ok_dsyms F24 T RD, b24⟩
  have c_in : ∀ base : Heap, OpX.CalG l.prog w K mg base CD "__contains__" 2 (spDIn CD) := fun base => ⟨_, _, _, a25, i25, g25, ok_din F25 T RD (c_fitl base) (c_fitr base) (c_dsyms base), b25⟩
  have c_dslope : ∀ base : Heap, CalM l.prog w K mg base CD "_slope" 3 (spSlope CD C) := fun base => ⟨clCD, _, _, _, ⟨a26, i26, k26⟩, ok_slope F26 T RD (c_get base), b26⟩
  have c_dleast : ∀ base : Heap, CalM l.prog w K mg base CD "least" 4 (spLeast CD C) := fun base => ⟨clCD, _, _, _, ⟨a27, i27, k27⟩, ok_least F27 T RD R (c_get base) (c_dslope base), b27⟩
  have c_dgreatest : ∀ base : Heap, CalM l.prog w K mg base CD "greatest" 8 (spGreatest CD C) := fun base => ⟨clCD, _, _, _, ⟨a28, i28, k28⟩, ok_greatest F28 T RD R (c_neg base) (c_dleast base), b28⟩
  have c_dinit : ∀ base : Heap, FnOk l.prog w K mg base CX0 2 f92 _ _ (spDInit K CD) := fun base => ok_dinit F92 T D RD (c_isl base) (c_isr base) (c_dsyms base)
  have c_mk2 : ∀ base : Heap, C8.Mak l.prog w K mg base 2 "Domain" CD (spDInit K CD) [] := fun base => ⟨f92, _, _, ds2, MD, c_dinit base, hCD, bd2, vd2⟩
  refine ⟨_, fun s v => .of_eq rfl, fun base _ _ => ok_law F13 TA hC (c_bag base) (c_take base) (c_number base) (c_pairs base) (c_sums base) (c_lengths base) (c_rounds base) (c_at base) (c_total base) (c_lleast base) (c_of base) (c_mk2 base) (c_dleast base) (c_dgreatest base) (c_in base)⟩
theorem walk {l : PySem.W.OpenLaw} {q : Program} {loose : List Str} {XP : (Str → Option Value) → Heap → Prop} {YP : World → Heap → Prop} {d : DefRec} {K : Params → PySem.W.Frag} (hn : l.most = some 63) (hdf : d.params.defaults = [])
    (hY : ∀ (w : World) (h : Heap), YP w h → (K w.params).In h)
    (F : ∀ (w : World) (mg : Str → Option Value) (fa : Addr) (h : Heap), (K w.params).In h → h.Ns mainGlobals mg → mg d.name = some (.ref fa) →
      ∃ fd : FuncData, (∀ (s : Shared) (u : Value), BindsTo s fd ⟨[u], []⟩ [("script", u)]) ∧ ∀ base : Heap, (K w.params).In base → base.Ns mainGlobals mg → FnOk l.prog w (K w.params) mg base CX0 9 fa fd ["script"] (spLaw (K w.params))) :
    PySem.W.WalkO q loose XP YP l.row.toRowW d [] (fun f vs => PySem.call f vs) :=
  L2.walk_of (n := 63) (k := 9) (x := "script") (CX := fun _ => CX0) (sp := fun w => spLaw (K w.params)) hn (by decide) hdf ⟨rfl, by decide, by decide⟩ hY F (fun _ _ a ns hl _ hS => ⟨a, ns, rfl, hS, hl, fun _ => rfl⟩) fun _ _ _ _ _ z => z
end Ow

open PySem PySem.W PyProof.Rows in
set_option maxRecDepth 100000 in
set_option maxHeartbeats 0 in
theorem PySem.Challenge.cw_owedanswers_k09_whole_least_and_greatest_holds : PySem.Challenge.rw_owedanswers_k09_whole_least_and_greatest.Holds := by
  w_on; o_law; k_head; (case hw => w_witness2)
  k_fill
  refine Ow.walk (l := PySem.Challenge.rw_owedanswers_k09_whole_least_and_greatest) rfl rfl (fun w h Y => PySem.W.kIn_of Y) ?F
  case F =>
    intro w mg fa h KX G hmg
    refine' Ow.all_mk KX G hmg ?a0 ?l0 ?c0 ?k0 ?a1 ?l1 ?c1 ?k1 ?a2 ?l2 ?c2 ?k2 ?a3 ?l3 ?c3 ?k3 ?a4 ?l4 ?c4 ?k4 ?a5 ?l5 ?c5 ?k5 ?a6 ?l6 ?c6 ?k6 ?a7 ?l7 ?c7 ?k7 ?a8 ?l8 ?c8 ?k8 ?a9 ?l9 ?c9 ?k9 ?a10 ?l10 ?c10 ?k10 ?a11 ?l11 ?c11 ?k11 ?a12 ?l12 ?c12 ?k12 ?a13 ?l13 ?c13 ?k13 ?a14 ?l14 ?c14 ?k14 ?a15 ?l15 ?c15 ?k15 ?a16 ?l16 ?c16 ?k16 ?a17 ?l17 ?c17 ?k17 ?a18 ?l18 ?c18 ?k18 ?aC ?pgC ?hdC ?poC ?saC ?mkC ?kcC ?noCconstant ?noC_coefficients ?aCD ?pgCD ?hdCD ?poCD ?saCD ?mkCD ?kcCD ?noCD_lengths ?noCD_rounds ?a19 ?l19 ?c19 ?k19 ?i19 ?a20 ?l20 ?c20 ?k20 ?i20 ?a21 ?l21 ?c21 ?k21 ?i21 ?a22 ?l22 ?c22 ?k22 ?i22 ?a23 ?l23 ?c23 ?k23 ?i23 ?a24 ?l24 ?c24 ?k24 ?i24 ?a25 ?l25 ?c25 ?k25 ?i25 ?a26 ?l26 ?c26 ?k26 ?i26 ?a27 ?l27 ?c27 ?k27 ?i27 ?a28 ?l28 ?c28 ?k28 ?i28 ?zlen ?zabs ?zint ?zstr ?zmin ?zmax ?zall ?zrange ?zsorted ?zlist ?ztuple ?zdict ?zisinstance ?zsum ?zany ?v_LETTERS ?v_DIGITS ?v_MOST_LETTERS ?v_MOST_DIGITS ?rd ?ga ?cm ?rc ?fi ?l90 ?c90 ?k90 ?a91 ?i91 ?l91 ?c91 ?k91 ?lT ?ha ?xn ?xt ?hm ?isC ?tyC ?sf ?sb1 ?sb2 ?rMul ?iAMul ?iBMul ?gL ?gR ?lL ?lR ?a92 ?l92 ?c92 ?k92 ?i92 ?lU ?g23 ?g25
    (case a0 => k_is)
    (case l0 => k_is)
    (case c0 => k_is)
    (case k0 => k_is)
    (case a1 => k_is)
    (case l1 => k_is)
    (case c1 => k_is)
    (case k1 => k_is)
    (case a2 => k_is)
    (case l2 => k_is)
    (case c2 => k_is)
    (case k2 => k_is)
    (case a3 => k_is)
    (case l3 => k_is)
    (case c3 => k_is)
    (case k3 => k_is)
    (case a4 => k_is)
    (case l4 => k_is)
    (case c4 => k_is)
    (case k4 => k_is)
    (case a5 => k_is)
    (case l5 => k_is)
    (case c5 => k_is)
    (case k5 => k_is)
    (case a6 => k_is)
    (case l6 => k_is)
    (case c6 => k_is)
    (case k6 => k_is)
    (case a7 => k_is)
    (case l7 => k_is)
    (case c7 => k_is)
    (case k7 => k_is)
    (case a8 => k_is)
    (case l8 => k_is)
    (case c8 => k_is)
    (case k8 => k_is)
    (case a9 => k_is)
    (case l9 => k_is)
    (case c9 => k_is)
    (case k9 => k_is)
    (case a10 => k_is)
    (case l10 => k_is)
    (case c10 => k_is)
    (case k10 => k_is)
    (case a11 => k_is)
    (case l11 => k_is)
    (case c11 => k_is)
    (case k11 => k_is)
    (case a12 => k_is)
    (case l12 => k_is)
    (case c12 => k_is)
    (case k12 => k_is)
    (case a13 => k_is)
    (case l13 => k_is)
    (case c13 => k_is)
    (case k13 => k_is)
    (case a14 => k_is)
    (case l14 => k_is)
    (case c14 => k_is)
    (case k14 => k_is)
    (case a15 => k_is)
    (case l15 => k_is)
    (case c15 => k_is)
    (case k15 => k_is)
    (case a16 => k_is)
    (case l16 => k_is)
    (case c16 => k_is)
    (case k16 => k_is)
    (case a17 => k_is)
    (case l17 => k_is)
    (case c17 => k_is)
    (case k17 => k_is)
    (case a18 => k_is)
    (case l18 => k_is)
    (case c18 => k_is)
    (case k18 => k_is)
    (case aC => k_is)
    (case pgC => k_is)
    (case hdC => k_is)
    (case poC => k_is)
    (case saC => k_is)
    (case mkC => k_is)
    (case kcC => k_is)
    (case noCconstant => k_is)
    (case noC_coefficients => k_is)
    (case aCD => k_is)
    (case pgCD => k_is)
    (case hdCD => k_is)
    (case poCD => k_is)
    (case saCD => k_is)
    (case mkCD => k_is)
    (case kcCD => k_is)
    (case noCD_lengths => k_is)
    (case noCD_rounds => k_is)
    (case a19 => k_is)
    (case l19 => k_is)
    (case c19 => k_is)
    (case k19 => k_is)
    (case i19 => k_is)
    (case a20 => k_is)
    (case l20 => k_is)
    (case c20 => k_is)
    (case k20 => k_is)
    (case i20 => k_is)
    (case a21 => k_is)
    (case l21 => k_is)
    (case c21 => k_is)
    (case k21 => k_is)
    (case i21 => k_is)
    (case a22 => k_is)
    (case l22 => k_is)
    (case c22 => k_is)
    (case k22 => k_is)
    (case i22 => k_is)
    (case a23 => k_is)
    (case l23 => k_is)
    (case c23 => k_is)
    (case k23 => k_is)
    (case i23 => k_is)
    (case a24 => k_is)
    (case l24 => k_is)
    (case c24 => k_is)
    (case k24 => k_is)
    (case i24 => k_is)
    (case a25 => k_is)
    (case l25 => k_is)
    (case c25 => k_is)
    (case k25 => k_is)
    (case i25 => k_is)
    (case a26 => k_is)
    (case l26 => k_is)
    (case c26 => k_is)
    (case k26 => k_is)
    (case i26 => k_is)
    (case a27 => k_is)
    (case l27 => k_is)
    (case c27 => k_is)
    (case k27 => k_is)
    (case i27 => k_is)
    (case a28 => k_is)
    (case l28 => k_is)
    (case c28 => k_is)
    (case k28 => k_is)
    (case i28 => k_is)
    (case zlen => k_is)
    (case zabs => k_is)
    (case zint => k_is)
    (case zstr => k_is)
    (case zmin => k_is)
    (case zmax => k_is)
    (case zall => k_is)
    (case zrange => k_is)
    (case zsorted => k_is)
    (case zlist => k_is)
    (case ztuple => k_is)
    (case zdict => k_is)
    (case zisinstance => k_is)
    (case zsum => k_is)
    (case zany => k_is)
    (case v_LETTERS => k_is)
    (case v_DIGITS => k_is)
    (case v_MOST_LETTERS => k_is)
    (case v_MOST_DIGITS => k_is)
    (case rd => k_is)
    (case ga => k_is)
    (case cm => k_is)
    (case rc => k_is)
    (case fi => k_is)
    (case l90 => k_is)
    (case c90 => k_is)
    (case k90 => k_is)
    (case a91 => k_is)
    (case i91 => k_is)
    (case l91 => k_is)
    (case c91 => k_is)
    (case k91 => k_is)
    (case lT => k_is)
    (case ha => k_is)
    (case xn => k_is)
    (case xt => k_is)
    (case hm => k_is)
    (case isC => k_is)
    (case tyC => k_is)
    (case sf => k_is)
    (case sb1 => k_is)
    (case sb2 => k_is)
    (case rMul => k_is)
    (case iAMul => k_is)
    (case iBMul => k_is)
    (case gL => k_is)
    (case gR => k_is)
    (case lL => k_is)
    (case lR => k_is)
    (case a92 => k_is)
    (case l92 => k_is)
    (case c92 => k_is)
    (case k92 => k_is)
    (case i92 => k_is)
    (case lU => k_is)
    (case g23 => k_is)
    (case g25 => k_is)
