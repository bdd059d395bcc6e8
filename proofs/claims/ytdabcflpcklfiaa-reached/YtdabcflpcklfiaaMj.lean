import Derived.Test.YtdabcflpcklfiaaMi
import Derived.Maps.AppendAt
/- A job is done: it is struck off the map, and told among those that are done. -/
namespace Go.Proofs.Ytdabcflpcklfiaa
open Go.RowKit Cad

/-- Striking out, as a step of a region that draws its order. -/
theorem step_jdel {ops : Array Oper} {o : Oper} {a : Act} {w : World} {K : Act → World → Prop} {Q : Exit → Act → World → Prop} {E : Prop}
    (hg : o.guard = none) (m x : Operand) (hop : o.op = Op.call { callee := Callee.builtin Builtin.delete, args := #[m, x], argTypes := #[132, 145] }) (b n : Nat) (M : Nat → Nat → Option Nat) (t i : Nat) (ht : t ≤ 9223372036854775807) (hi : i ≤ 9223372036854775807)
    (hm : a.eval m = .map (some b)) (hx : a.eval x = keyV t i) (hj : JMap w b n M)
    (hK : ∀ w', JMap w' b n (mput M t i none) → Fr (fun i => i = b) w w' → K (a.put o.dst (.tuple #[])) w') :
    if Region.wanted o (yielded ops a.tmps) = true then Oper.wp Try.prog o a w K Q else E := by
  have hw : Region.wanted o (yielded ops a.tmps) = true := by simp [Region.wanted, hg]
  rw [if_pos hw]
  obtain ⟨D, hown, hat, honly⟩ := hj
  obtain ⟨w', hrun, h1, h2⟩ := hown.drop Try.keyed Try.underlying132 (key_of ht hi) o.type
  unfold Oper.wp
  simp [execOp, hop, resolve, invoke, builtin, hm, hx, hrun, Result.andThen]
  refine hK w' ⟨_, h1, ?_, ?_⟩ (fr_turned h2)
  · intro t' i' ht' hi'
    unfold mput
    by_cases e : t' = t ∧ i' = i
    · obtain ⟨rfl, rfl⟩ := e
      rw [if_pos ⟨rfl, rfl⟩, Maps.atKey_del_same]
      rfl
    · rw [if_neg e, Maps.atKey_del_other (fun h => e (keyL_inj ht' hi' ht hi h))]
      exact hat t' i' ht' hi'
  · intro l hl
    by_cases e : l = keyL t i
    · subst e
      rw [Maps.has_del_same] at hl
      cases hl
    · rw [Maps.has_del_other e] at hl
      obtain ⟨t', i', h1, h2, h3, h4⟩ := honly l hl
      refine ⟨t', i', h1, h2, h3, ?_⟩
      unfold mput
      rw [if_neg (fun h => e (by rw [h3, h.1, h.2]))]
      exact h4

/-- Appending to a list of one's own, as a step of a region that draws its order. -/
theorem step_append_own {ops : Array Oper} {o : Oper} {a : Act} {w : World} {K : Act → World → Prop} {Q : Exit → Act → World → Prop} {E : Prop}
    (hg : o.guard = none) (s x : Operand) (t : TypeId) (hop : o.op = Op.call { callee := Callee.builtin Builtin.append, args := #[s, x], argTypes := #[t, t] })
    (e : TypeId) (i : TypeInfo) (z : Value) (size bytes : Nat) (ht : Try.prog.underlying t = some (.slice e)) (hi : Try.prog.info? e = some i) (hz : i.zero = some z)
    (hsize : i.size = size) (hby : i.bytes = bytes) (hzs : z.cells.size = size) (hsz : 0 < size)
    (v : Value) (n : Nat) (xs : List Value) (hs : a.eval s = v) (hown : w.ownsRow 0 e size v n xs)
    (ad : Addr) (m c : Nat) (news : List Value) (hx : a.eval x = .slice (some ad) m c) (hl : news.length = m * size) (hnews : ∀ j u, news[j]? = some u → w.cell? (ad.add j) = some u) (h1 : ∀ u ∈ news, u.oneCell' = true)
    (h63 : n + m ≤ maxLen) (hbytes : (n + m) * bytes ≤ 140737488355328)
    (h : ∀ v' w', w'.ownsRow 0 e size v' (n + m) (xs ++ news) → w.grownBy w' v.ownBlock → (v'.ownBlock = v.ownBlock ∨ v'.ownBlock = some w.heap.size) → K (a.put o.dst v') w') :
    if Region.wanted o (yielded ops a.tmps) = true then Oper.wp Try.prog o a w K Q else E := by
  have hw : Region.wanted o (yielded ops a.tmps) = true := by simp [Region.wanted, hg]
  rw [if_pos hw]
  obtain ⟨v', w', hr, h2, h3, h4, h5⟩ := run_append_own_at (P := Try.prog) w 0 t o.type e i z size bytes ht hi hz hsize hby hzs hsz v n xs hown ad m c news hl hnews h1 h63 hbytes (Nat.zero_le _)
  unfold Oper.wp execOp
  simp only [hop, resolve, invoke, builtin, Sem.run_bind, Sem.run_pure, Result.andThen_ok, List.map_toArray, List.map_cons, List.map_nil, hs, hx, hr]
  exact h v' w' h2 h3 h5

theorem own_neK {w : World} {base e size : Nat} {v : Value} {n : Nat} {xs : List Value} {b t m : Nat} {f : Nat → Value} (h : w.ownsRow base e size v n xs) (hr : w.rowIs b t m f) (hne : t ≠ e) : v.ownBlock ≠ some b := by
  obtain ⟨_, ⟨rfl, _⟩ | ⟨g, cap, cur, rfl, _, hb, _⟩⟩ := h
  · simp [Value.ownBlock]
  · intro e1
    simp [Value.ownBlock] at e1
    subst e1
    obtain ⟨c, hc, _⟩ := hr
    rw [hc] at hb
    simp at hb
    exact hne hb.2

theorem own_ne_map {w : World} {base e size : Nat} {v : Value} {n : Nat} {xs : List Value} {b k : Nat} {M : Nat → Nat → Option Nat} (h : w.ownsRow base e size v n xs) (hr : JMap w b k M) : v.ownBlock ≠ some b := by
  obtain ⟨_, ⟨rfl, _⟩ | ⟨g, cap, cur, rfl, _, hb, _⟩⟩ := h
  · simp [Value.ownBlock]
  · intro e1
    simp [Value.ownBlock] at e1
    subst e1
    obtain ⟨D, ⟨es, clock, hc, _⟩, _⟩ := hr
    rw [hc] at hb
    simp at hb

theorem fr_grown {w w' : World} {row : Option Nat} (h : w.grownBy w' row) : Fr (fun i => row = some i) w w' :=
  ⟨h.os, h.tape, h.output, h.size, fun i hi hn => h.block i hi (fun e => hn e.symm)⟩

end Go.Proofs.Ytdabcflpcklfiaa
