/- Run at each of the timer's blocks. -/
import Derived.Test.YtmhfkdnblemfdaaDoorCc
namespace Go.Proofs.YtmhfkdnblemfdaaDoor
open Go.RowKit Go.Shelf

set_option linter.unusedVariables false
def insV (K : Int) (zs : List Int) : List (List ValD) := zs.map fun a => [⟨K, a⟩]
def insP (ps : List (Int × Int)) : List (List ValD) := ps.map fun p => [⟨2, p.1⟩, ⟨2, p.2⟩]
theorem insV_at {K : Int} {zs : List Int} {k : Nat} {vs : List ValD} (h : (insV K zs)[k]? = some vs) : vs = [⟨K, zs.getD k 0⟩] := by
  unfold insV at h
  rw [List.getElem?_map] at h
  rw [List.getD_eq_getElem?_getD]
  cases e : zs[k]? with
  | none => rw [e] at h; simp at h
  | some a => rw [e] at h; simp at h; rw [← h]; rfl
theorem insP_at {ps : List (Int × Int)} {k : Nat} {vs : List ValD} (h : (insP ps)[k]? = some vs) : vs = [⟨2, (ps.getD k (0, 0)).1⟩, ⟨2, (ps.getD k (0, 0)).2⟩] := by
  unfold insP at h
  rw [List.getElem?_map] at h
  rw [List.getD_eq_getElem?_getD]
  cases e : ps[k]? with
  | none => rw [e] at h; simp at h
  | some a => rw [e] at h; simp at h; rw [← h]; rfl
theorem onesV_ins (bs : List Bool) : onesV bs = insV 2 (bs.map bitN) := by
  unfold onesV insV
  rw [List.map_map]
  rfl
theorem fits_bit (a : Int) (h : a = 0 ∨ a = 1) : fitsB 2 a 2 = true := by unfold fitsB; simp; omega
theorem fits_num (a : Int) : fitsB 1 a 1 = true := by unfold fitsB; simp
theorem wf_small (n : Int) (h1 : -1000000000000 ≤ n) (h2 : n ≤ 1000000000000) : (Lit.int .i64 n).wf = true := by
  show (decide (-9223372036854775808 ≤ n) && decide (n ≤ 9223372036854775807)) = true
  simp; omega
theorem insV_fit {K : Int} {zs : List Int} (hf : ∀ a ∈ zs, fitsB K a K = true) : ∀ vs ∈ insV K zs, vs.length = 1 ∧ ∀ v ∈ vs, fitsB v.k v.n K = true := by
  intro vs h
  unfold insV at h
  obtain ⟨a, ha, rfl⟩ := List.mem_map.1 h
  exact ⟨rfl, fun v hv => by obtain rfl : v = ⟨K, a⟩ := by simpa using hv
                             exact hf a ha⟩
theorem insP_fit {ps : List (Int × Int)} (hf : ∀ p ∈ ps, fitsB 2 p.1 2 = true ∧ fitsB 2 p.2 2 = true) : ∀ vs ∈ insP ps, vs.length = 2 ∧ ∀ v ∈ vs, fitsB v.k v.n 2 = true := by
  intro vs h
  unfold insP at h
  obtain ⟨p, hp, rfl⟩ := List.mem_map.1 h
  refine ⟨rfl, fun v hv => ?_⟩
  rcases List.mem_cons.1 hv with rfl | hv
  · exact (hf p hp).1
  · obtain rfl : v = ⟨2, p.2⟩ := by simpa using hv
    exact (hf p hp).2
/-- ondelay: its state before step k, and its output -/
def stOndelay (t : Int) (dt : Int) (xs : List Int) : Nat → Int
  | 0 => 0
  | k + 1 => onS (xs.getD k 0) (stOndelay t dt xs k) t dt
def ovOndelay (t : Int) (dt : Int) (xs : List Int) (k : Nat) : Int := onV (xs.getD k 0) (stOndelay t dt xs k) t dt
theorem invOndelay (t : Int) (dt : Int) (xs : List Int) (ht : 0 ≤ t ∧ t ≤ 86400) (hd : 1 ≤ dt) : ∀ k, 0 ≤ (stOndelay t dt xs k) ∧ (stOndelay t dt xs k) ≤ t + 1
  | 0 => by
    show 0 ≤ (0 : Int) ∧ (0 : Int) ≤ t + 1
    omega
  | k + 1 => by
    have h := invOndelay t dt xs ht hd k
    show 0 ≤ (onS (xs.getD k 0) (stOndelay t dt xs k) t dt) ∧ (onS (xs.getD k 0) (stOndelay t dt xs k) t dt) ≤ t + 1
    generalize (stOndelay t dt xs k) = s at *
    unfold onS; (repeat' split) <;> omega
theorem evOndelay (t : Int) (dt : Int) (xs : List Int) (ht : 0 ≤ t ∧ t ≤ 86400) (hd : 1 ≤ dt) (hd2 : dt ≤ 86400) : EvOk ⟨#[111, 110, 100, 101, 108, 97, 121]⟩ 1 ([t] : List Int) dt (insV 2 xs) (fun k => [.int .i64 (stOndelay t dt xs k)]) (ovOndelay t dt xs) := by
  intro w5 rb v1 v2 v3 v4 v5 pa pc k vs hrb hq hx w ib io ic' hb hr hs hc hne
  obtain rfl := insV_at hx
  have i0 := hc 0 _ rfl
  obtain ⟨pb, po, rfl, hpl, hpc⟩ := (hq.keep hb).at iL_len (Nat.succ_pos _)
  have hpb : pb ≠ w5.heap.size := by
    have h := ins_low hq
    rcases h with h | h
    · simp at h
    · have := h pb po rfl; omega
  have p0 := hpc 0 _ rfl 0 _ rfl
  simp only [Nat.zero_mul, Nat.add_zero] at p0
  have hi := invOndelay t dt xs ht hd k
  exact eval_ondelay rb w5.heap.size 1 pb po pc ib io ic' v1 v2 v3 v4 v5 (xs.getD k 0) (stOndelay t dt xs k) t dt [] (by decide) ⟨by omega, by omega⟩ ⟨by omega, by omega⟩ ⟨by omega, by omega⟩ w hr p0 hs i0
theorem runOndelay (t : Int) (dt : Int) (xs : List Int) (ht : 0 ≤ t ∧ t ≤ 86400) (hd : 1 ≤ dt) (hd2 : dt ≤ 86400) (hf : ∀ a ∈ xs, a = 0 ∨ a = 1) (h100 : xs.length ≤ 100) (pa : Option Addr) (pc : Nat) (oa : Option Addr) (oc : Nat) (rs : List SlD) (w : World) (hm : MaxAt w) (hq : InS w pa ([t] : List Int).length 1 (flat iL ([t] : List Int))) (hin : InsOk w oa rs (insV 2 xs)) :
    Calls Tryd.prog 17 #[.string ⟨#[111, 110, 100, 101, 108, 97, 121]⟩, .slice pa 1 pc, .slice oa rs.length oc, .int .i64 dt] w fun e w' => ∃ v, e = .returned (.tuple #[v, .int .i64 0]) ∧ w'.ownsRow w.heap.size 26 2 v rs.length (flat valL (outsV 2 (ovOndelay t dt xs) rs.length)) ∧ Below w.heap.size w w' := by
  have hwf : ∀ v ∈ ([t] : List Int), (Lit.int .i64 v).wf = true := by intro v hv; simp at hv; subst hv; exact wf_small _ (by omega) (by omega)
  have hk : ∀ p ∈ ([⟨⟨#[97]⟩, ⟨#[98, 105, 110, 97, 114, 121]⟩⟩] : List PortD), KindOk p.ty 2 := by intro p hp; simp at hp; subst hp; exact kindOk_binary
  have hval : (decide (([t] : List Int).length = ([⟨⟨#[116, 105, 109, 101]⟩, 0, 86400, 0⟩] : List BndD).length) && decide (prmE [⟨⟨#[116, 105, 109, 101]⟩, 0, 86400, 0⟩] (zipP [⟨⟨#[116, 105, 109, 101]⟩, 0, 86400, 0⟩] ([t] : List Int)) (fun _ => true) = 0)) = true := by rw [prmE_ondelay]; simp [inB]; omega
  have hl : rs.length ≤ 100 := by have h := hin.2.1; unfold insV at h; rw [List.length_map] at h; omega
  exact run_any ⟨#[111, 110, 100, 101, 108, 97, 121]⟩ ⟨#[98, 105, 110, 97, 114, 121]⟩ 1 1 (by decide) [⟨⟨#[116, 105, 109, 101]⟩, 0, 86400, 0⟩] [⟨⟨#[97]⟩, ⟨#[98, 105, 110, 97, 114, 121]⟩⟩] (fun _ => true) (by decide +kernel) find_ondelay (agree_ondelay _) pa pc ([t] : List Int) (by decide) hwf
    (by unfold maxLen; decide +kernel) hval 2 2 hk kindOk_binary (by decide) (by decide)
    dt hd hd2 oa oc rs (insV 2 xs) hl (insV_fit (fun a ha => fits_bit a (hf a ha))) (fun k => [.int .i64 (stOndelay t dt xs k)]) (ovOndelay t dt xs) rfl (evOndelay t dt xs ht hd hd2) w hm hq hin
/-- offdelay: its state before step k, and its output -/
def stOffdelay (t : Int) (dt : Int) (xs : List Int) : Nat → Int
  | 0 => 0
  | k + 1 => offS (xs.getD k 0) (stOffdelay t dt xs k) t dt
def ovOffdelay (t : Int) (dt : Int) (xs : List Int) (k : Nat) : Int := offV (xs.getD k 0) (stOffdelay t dt xs k) t dt
theorem invOffdelay (t : Int) (dt : Int) (xs : List Int) (ht : 0 ≤ t ∧ t ≤ 86400) (hd : 1 ≤ dt) : ∀ k, -1 ≤ (stOffdelay t dt xs k) ∧ (stOffdelay t dt xs k) ≤ t
  | 0 => by
    show -1 ≤ (0 : Int) ∧ (0 : Int) ≤ t
    omega
  | k + 1 => by
    have h := invOffdelay t dt xs ht hd k
    show -1 ≤ (offS (xs.getD k 0) (stOffdelay t dt xs k) t dt) ∧ (offS (xs.getD k 0) (stOffdelay t dt xs k) t dt) ≤ t
    generalize (stOffdelay t dt xs k) = s at *
    unfold offS lastsN; (repeat' split) <;> omega
theorem evOffdelay (t : Int) (dt : Int) (xs : List Int) (ht : 0 ≤ t ∧ t ≤ 86400) (hd : 1 ≤ dt) (hd2 : dt ≤ 86400) : EvOk ⟨#[111, 102, 102, 100, 101, 108, 97, 121]⟩ 1 ([t] : List Int) dt (insV 2 xs) (fun k => [.int .i64 (stOffdelay t dt xs k)]) (ovOffdelay t dt xs) := by
  intro w5 rb v1 v2 v3 v4 v5 pa pc k vs hrb hq hx w ib io ic' hb hr hs hc hne
  obtain rfl := insV_at hx
  have i0 := hc 0 _ rfl
  obtain ⟨pb, po, rfl, hpl, hpc⟩ := (hq.keep hb).at iL_len (Nat.succ_pos _)
  have hpb : pb ≠ w5.heap.size := by
    have h := ins_low hq
    rcases h with h | h
    · simp at h
    · have := h pb po rfl; omega
  have p0 := hpc 0 _ rfl 0 _ rfl
  simp only [Nat.zero_mul, Nat.add_zero] at p0
  have hi := invOffdelay t dt xs ht hd k
  exact eval_offdelay rb w5.heap.size 1 pb po pc ib io ic' v1 v2 v3 v4 v5 (xs.getD k 0) (stOffdelay t dt xs k) t dt [] (by decide) ⟨by omega, by omega⟩ ⟨by omega, by omega⟩ w hr p0 hs i0
theorem runOffdelay (t : Int) (dt : Int) (xs : List Int) (ht : 0 ≤ t ∧ t ≤ 86400) (hd : 1 ≤ dt) (hd2 : dt ≤ 86400) (hf : ∀ a ∈ xs, a = 0 ∨ a = 1) (h100 : xs.length ≤ 100) (pa : Option Addr) (pc : Nat) (oa : Option Addr) (oc : Nat) (rs : List SlD) (w : World) (hm : MaxAt w) (hq : InS w pa ([t] : List Int).length 1 (flat iL ([t] : List Int))) (hin : InsOk w oa rs (insV 2 xs)) :
    Calls Tryd.prog 17 #[.string ⟨#[111, 102, 102, 100, 101, 108, 97, 121]⟩, .slice pa 1 pc, .slice oa rs.length oc, .int .i64 dt] w fun e w' => ∃ v, e = .returned (.tuple #[v, .int .i64 0]) ∧ w'.ownsRow w.heap.size 26 2 v rs.length (flat valL (outsV 2 (ovOffdelay t dt xs) rs.length)) ∧ Below w.heap.size w w' := by
  have hwf : ∀ v ∈ ([t] : List Int), (Lit.int .i64 v).wf = true := by intro v hv; simp at hv; subst hv; exact wf_small _ (by omega) (by omega)
  have hk : ∀ p ∈ ([⟨⟨#[97]⟩, ⟨#[98, 105, 110, 97, 114, 121]⟩⟩] : List PortD), KindOk p.ty 2 := by intro p hp; simp at hp; subst hp; exact kindOk_binary
  have hval : (decide (([t] : List Int).length = ([⟨⟨#[116, 105, 109, 101]⟩, 0, 86400, 0⟩] : List BndD).length) && decide (prmE [⟨⟨#[116, 105, 109, 101]⟩, 0, 86400, 0⟩] (zipP [⟨⟨#[116, 105, 109, 101]⟩, 0, 86400, 0⟩] ([t] : List Int)) (fun _ => true) = 0)) = true := by rw [prmE_offdelay]; simp [inB]; omega
  have hl : rs.length ≤ 100 := by have h := hin.2.1; unfold insV at h; rw [List.length_map] at h; omega
  exact run_any ⟨#[111, 102, 102, 100, 101, 108, 97, 121]⟩ ⟨#[98, 105, 110, 97, 114, 121]⟩ 1 1 (by decide) [⟨⟨#[116, 105, 109, 101]⟩, 0, 86400, 0⟩] [⟨⟨#[97]⟩, ⟨#[98, 105, 110, 97, 114, 121]⟩⟩] (fun _ => true) (by decide +kernel) find_offdelay (agree_offdelay _) pa pc ([t] : List Int) (by decide) hwf
    (by unfold maxLen; decide +kernel) hval 2 2 hk kindOk_binary (by decide) (by decide)
    dt hd hd2 oa oc rs (insV 2 xs) hl (insV_fit (fun a ha => fits_bit a (hf a ha))) (fun k => [.int .i64 (stOffdelay t dt xs k)]) (ovOffdelay t dt xs) rfl (evOffdelay t dt xs ht hd hd2) w hm hq hin
/-- pulse: its state before step k, and its output -/
def stPulse (t : Int) (dt : Int) (xs : List Int) : Nat → Int × Int
  | 0 => (0, 0)
  | k + 1 => ((xs.getD k 0), pulS (xs.getD k 0) (stPulse t dt xs k).1 (stPulse t dt xs k).2 t dt)
def ovPulse (t : Int) (dt : Int) (xs : List Int) (k : Nat) : Int := pulV (xs.getD k 0) (stPulse t dt xs k).1 (stPulse t dt xs k).2 t dt
theorem invPulse (t : Int) (dt : Int) (xs : List Int) (ht : 0 ≤ t ∧ t ≤ 86400) (hd : 1 ≤ dt) : ∀ k, 0 ≤ (stPulse t dt xs k).2 ∧ (stPulse t dt xs k).2 ≤ t
  | 0 => by
    show 0 ≤ (0 : Int) ∧ (0 : Int) ≤ t
    omega
  | k + 1 => by
    have h := invPulse t dt xs ht hd k
    show 0 ≤ (pulS (xs.getD k 0) (stPulse t dt xs k).1 (stPulse t dt xs k).2 t dt) ∧ (pulS (xs.getD k 0) (stPulse t dt xs k).1 (stPulse t dt xs k).2 t dt) ≤ t
    generalize (stPulse t dt xs k) = s at *
    unfold pulS lastsN; (repeat' split) <;> omega
theorem evPulse (t : Int) (dt : Int) (xs : List Int) (ht : 0 ≤ t ∧ t ≤ 86400) (hd : 1 ≤ dt) (hd2 : dt ≤ 86400) : EvOk ⟨#[112, 117, 108, 115, 101]⟩ 2 ([t] : List Int) dt (insV 2 xs) (fun k => [.int .i64 (stPulse t dt xs k).1, .int .i64 (stPulse t dt xs k).2]) (ovPulse t dt xs) := by
  intro w5 rb v1 v2 v3 v4 v5 pa pc k vs hrb hq hx w ib io ic' hb hr hs hc hne
  obtain rfl := insV_at hx
  have i0 := hc 0 _ rfl
  obtain ⟨pb, po, rfl, hpl, hpc⟩ := (hq.keep hb).at iL_len (Nat.succ_pos _)
  have hpb : pb ≠ w5.heap.size := by
    have h := ins_low hq
    rcases h with h | h
    · simp at h
    · have := h pb po rfl; omega
  have p0 := hpc 0 _ rfl 0 _ rfl
  simp only [Nat.zero_mul, Nat.add_zero] at p0
  have hi := invPulse t dt xs ht hd k
  exact eval_pulse rb w5.heap.size pb po pc ib io ic' v1 v2 v3 v4 v5 (xs.getD k 0) (stPulse t dt xs k).1 (stPulse t dt xs k).2 t dt (by omega) ⟨by omega, by omega⟩ ⟨by omega, by omega⟩ w hr p0 hs i0
theorem runPulse (t : Int) (dt : Int) (xs : List Int) (ht : 0 ≤ t ∧ t ≤ 86400) (hd : 1 ≤ dt) (hd2 : dt ≤ 86400) (hf : ∀ a ∈ xs, a = 0 ∨ a = 1) (h100 : xs.length ≤ 100) (pa : Option Addr) (pc : Nat) (oa : Option Addr) (oc : Nat) (rs : List SlD) (w : World) (hm : MaxAt w) (hq : InS w pa ([t] : List Int).length 1 (flat iL ([t] : List Int))) (hin : InsOk w oa rs (insV 2 xs)) :
    Calls Tryd.prog 17 #[.string ⟨#[112, 117, 108, 115, 101]⟩, .slice pa 1 pc, .slice oa rs.length oc, .int .i64 dt] w fun e w' => ∃ v, e = .returned (.tuple #[v, .int .i64 0]) ∧ w'.ownsRow w.heap.size 26 2 v rs.length (flat valL (outsV 2 (ovPulse t dt xs) rs.length)) ∧ Below w.heap.size w w' := by
  have hwf : ∀ v ∈ ([t] : List Int), (Lit.int .i64 v).wf = true := by intro v hv; simp at hv; subst hv; exact wf_small _ (by omega) (by omega)
  have hk : ∀ p ∈ ([⟨⟨#[97]⟩, ⟨#[98, 105, 110, 97, 114, 121]⟩⟩] : List PortD), KindOk p.ty 2 := by intro p hp; simp at hp; subst hp; exact kindOk_binary
  have hval : (decide (([t] : List Int).length = ([⟨⟨#[116, 105, 109, 101]⟩, 0, 86400, 0⟩] : List BndD).length) && decide (prmE [⟨⟨#[116, 105, 109, 101]⟩, 0, 86400, 0⟩] (zipP [⟨⟨#[116, 105, 109, 101]⟩, 0, 86400, 0⟩] ([t] : List Int)) (fun _ => true) = 0)) = true := by rw [prmE_pulse]; simp [inB]; omega
  have hl : rs.length ≤ 100 := by have h := hin.2.1; unfold insV at h; rw [List.length_map] at h; omega
  exact run_any ⟨#[112, 117, 108, 115, 101]⟩ ⟨#[98, 105, 110, 97, 114, 121]⟩ 1 2 (by decide) [⟨⟨#[116, 105, 109, 101]⟩, 0, 86400, 0⟩] [⟨⟨#[97]⟩, ⟨#[98, 105, 110, 97, 114, 121]⟩⟩] (fun _ => true) (by decide +kernel) find_pulse (agree_pulse _) pa pc ([t] : List Int) (by decide) hwf
    (by unfold maxLen; decide +kernel) hval 2 2 hk kindOk_binary (by decide) (by decide)
    dt hd hd2 oa oc rs (insV 2 xs) hl (insV_fit (fun a ha => fits_bit a (hf a ha))) (fun k => [.int .i64 (stPulse t dt xs k).1, .int .i64 (stPulse t dt xs k).2]) (ovPulse t dt xs) rfl (evPulse t dt xs ht hd hd2) w hm hq hin
/-- edge: its state before step k, and its output -/
def stEdge (dt : Int) (xs : List Int) : Nat → Int
  | 0 => 0
  | k + 1 => (xs.getD k 0)
def ovEdge (dt : Int) (xs : List Int) (k : Nat) : Int := edgeN (xs.getD k 0) (stEdge dt xs k)
theorem evEdge (dt : Int) (xs : List Int) (hd : 1 ≤ dt) (hd2 : dt ≤ 86400) : EvOk ⟨#[101, 100, 103, 101]⟩ 1 ([] : List Int) dt (insV 2 xs) (fun k => [.int .i64 (stEdge dt xs k)]) (ovEdge dt xs) := by
  intro w5 rb v1 v2 v3 v4 v5 pa pc k vs hrb hq hx w ib io ic' hb hr hs hc hne
  obtain rfl := insV_at hx
  have i0 := hc 0 _ rfl
  exact eval_edge rb w5.heap.size 1 ib io ic' v1 v2 v3 v4 v5 _ (xs.getD k 0) (stEdge dt xs k) dt [] (by decide) (by omega) w hr hs i0
theorem runEdge (dt : Int) (xs : List Int) (hd : 1 ≤ dt) (hd2 : dt ≤ 86400) (hf : ∀ a ∈ xs, a = 0 ∨ a = 1) (h100 : xs.length ≤ 100) (pa : Option Addr) (pc : Nat) (oa : Option Addr) (oc : Nat) (rs : List SlD) (w : World) (hm : MaxAt w) (hq : InS w pa ([] : List Int).length 1 (flat iL ([] : List Int))) (hin : InsOk w oa rs (insV 2 xs)) :
    Calls Tryd.prog 17 #[.string ⟨#[101, 100, 103, 101]⟩, .slice pa 0 pc, .slice oa rs.length oc, .int .i64 dt] w fun e w' => ∃ v, e = .returned (.tuple #[v, .int .i64 0]) ∧ w'.ownsRow w.heap.size 26 2 v rs.length (flat valL (outsV 2 (ovEdge dt xs) rs.length)) ∧ Below w.heap.size w w' := by
  have hwf : ∀ v ∈ ([] : List Int), (Lit.int .i64 v).wf = true := by intro v hv; simp at hv
  have hk : ∀ p ∈ ([⟨⟨#[97]⟩, ⟨#[98, 105, 110, 97, 114, 121]⟩⟩] : List PortD), KindOk p.ty 2 := by intro p hp; simp at hp; subst hp; exact kindOk_binary
  have hval : (decide (([] : List Int).length = ([] : List BndD).length) && decide (prmE [] (zipP [] ([] : List Int)) (fun _ => true) = 0)) = true := by rw [prmE_edge]; simp [inB]
  have hl : rs.length ≤ 100 := by have h := hin.2.1; unfold insV at h; rw [List.length_map] at h; omega
  exact run_any ⟨#[101, 100, 103, 101]⟩ ⟨#[98, 105, 110, 97, 114, 121]⟩ 1 1 (by decide) [] [⟨⟨#[97]⟩, ⟨#[98, 105, 110, 97, 114, 121]⟩⟩] (fun _ => true) (by decide +kernel) find_edge (agree_edge _) pa pc ([] : List Int) (by decide) hwf
    (by unfold maxLen; decide +kernel) hval 2 2 hk kindOk_binary (by decide) (by decide)
    dt hd hd2 oa oc rs (insV 2 xs) hl (insV_fit (fun a ha => fits_bit a (hf a ha))) (fun k => [.int .i64 (stEdge dt xs k)]) (ovEdge dt xs) rfl (evEdge dt xs hd hd2) w hm hq hin
/-- minrun: its state before step k, and its output -/
def stMinrun (t1 : Int) (t0 : Int) (dt : Int) (xs : List Int) : Nat → Int × Int
  | 0 => (0, 0)
  | k + 1 => (mrS0 t1 t0 (xs.getD k 0) (stMinrun t1 t0 dt xs k).1 (stMinrun t1 t0 dt xs k).2 dt, mrS1 t1 t0 (xs.getD k 0) (stMinrun t1 t0 dt xs k).1 (stMinrun t1 t0 dt xs k).2 dt)
def ovMinrun (t1 : Int) (t0 : Int) (dt : Int) (xs : List Int) (k : Nat) : Int := mrS0 t1 t0 (xs.getD k 0) (stMinrun t1 t0 dt xs k).1 (stMinrun t1 t0 dt xs k).2 dt
theorem invMinrun (t1 : Int) (t0 : Int) (dt : Int) (xs : List Int) (h1 : 0 ≤ t1 ∧ t1 ≤ 86400) (h0 : 0 ≤ t0 ∧ t0 ≤ 86400) (hd : 1 ≤ dt) : ∀ k, 0 ≤ (stMinrun t1 t0 dt xs k).2 ∧ (stMinrun t1 t0 dt xs k).2 ≤ 86400
  | 0 => by
    show 0 ≤ (0 : Int) ∧ (0 : Int) ≤ 86400
    omega
  | k + 1 => by
    have h := invMinrun t1 t0 dt xs h1 h0 hd k
    show 0 ≤ (mrS1 t1 t0 (xs.getD k 0) (stMinrun t1 t0 dt xs k).1 (stMinrun t1 t0 dt xs k).2 dt) ∧ (mrS1 t1 t0 (xs.getD k 0) (stMinrun t1 t0 dt xs k).1 (stMinrun t1 t0 dt xs k).2 dt) ≤ 86400
    generalize (stMinrun t1 t0 dt xs k) = s at *
    unfold mrS1 lastsN leastN; (repeat' split) <;> omega
theorem evMinrun (t1 : Int) (t0 : Int) (dt : Int) (xs : List Int) (h1 : 0 ≤ t1 ∧ t1 ≤ 86400) (h0 : 0 ≤ t0 ∧ t0 ≤ 86400) (hd : 1 ≤ dt) (hd2 : dt ≤ 86400) : EvOk ⟨#[109, 105, 110, 114, 117, 110]⟩ 2 ([t1, t0] : List Int) dt (insV 2 xs) (fun k => [.int .i64 (stMinrun t1 t0 dt xs k).1, .int .i64 (stMinrun t1 t0 dt xs k).2]) (ovMinrun t1 t0 dt xs) := by
  intro w5 rb v1 v2 v3 v4 v5 pa pc k vs hrb hq hx w ib io ic' hb hr hs hc hne
  obtain rfl := insV_at hx
  have i0 := hc 0 _ rfl
  obtain ⟨pb, po, rfl, hpl, hpc⟩ := (hq.keep hb).at iL_len (Nat.succ_pos _)
  have hpb : pb ≠ w5.heap.size := by
    have h := ins_low hq
    rcases h with h | h
    · simp at h
    · have := h pb po rfl; omega
  have p0 := hpc 0 _ rfl 0 _ rfl
  have p1 := hpc 1 _ rfl 0 _ rfl
  simp only [Nat.zero_mul, Nat.one_mul, Nat.add_zero] at p0 p1
  have hi := invMinrun t1 t0 dt xs h1 h0 hd k
  exact eval_minrun rb w5.heap.size pb po pc ib io ic' v1 v2 v3 v4 v5 t1 t0 (xs.getD k 0) (stMinrun t1 t0 dt xs k).1 (stMinrun t1 t0 dt xs k).2 dt (by omega) hpb ⟨by omega, by omega⟩ ⟨by omega, by omega⟩ w hr p0 p1 hs i0
theorem runMinrun (t1 : Int) (t0 : Int) (dt : Int) (xs : List Int) (h1 : 0 ≤ t1 ∧ t1 ≤ 86400) (h0 : 0 ≤ t0 ∧ t0 ≤ 86400) (hd : 1 ≤ dt) (hd2 : dt ≤ 86400) (hf : ∀ a ∈ xs, a = 0 ∨ a = 1) (h100 : xs.length ≤ 100) (pa : Option Addr) (pc : Nat) (oa : Option Addr) (oc : Nat) (rs : List SlD) (w : World) (hm : MaxAt w) (hq : InS w pa ([t1, t0] : List Int).length 1 (flat iL ([t1, t0] : List Int))) (hin : InsOk w oa rs (insV 2 xs)) :
    Calls Tryd.prog 17 #[.string ⟨#[109, 105, 110, 114, 117, 110]⟩, .slice pa 2 pc, .slice oa rs.length oc, .int .i64 dt] w fun e w' => ∃ v, e = .returned (.tuple #[v, .int .i64 0]) ∧ w'.ownsRow w.heap.size 26 2 v rs.length (flat valL (outsV 2 (ovMinrun t1 t0 dt xs) rs.length)) ∧ Below w.heap.size w w' := by
  have hwf : ∀ v ∈ ([t1, t0] : List Int), (Lit.int .i64 v).wf = true := by intro v hv; simp at hv; rcases hv with rfl | rfl <;> exact wf_small _ (by omega) (by omega)
  have hk : ∀ p ∈ ([⟨⟨#[97]⟩, ⟨#[98, 105, 110, 97, 114, 121]⟩⟩] : List PortD), KindOk p.ty 2 := by intro p hp; simp at hp; subst hp; exact kindOk_binary
  have hval : (decide (([t1, t0] : List Int).length = ([⟨⟨#[111, 110]⟩, 0, 86400, 0⟩, ⟨⟨#[111, 102, 102]⟩, 0, 86400, 0⟩] : List BndD).length) && decide (prmE [⟨⟨#[111, 110]⟩, 0, 86400, 0⟩, ⟨⟨#[111, 102, 102]⟩, 0, 86400, 0⟩] (zipP [⟨⟨#[111, 110]⟩, 0, 86400, 0⟩, ⟨⟨#[111, 102, 102]⟩, 0, 86400, 0⟩] ([t1, t0] : List Int)) (fun _ => true) = 0)) = true := by rw [prmE_minrun]; simp [inB]; omega
  have hl : rs.length ≤ 100 := by have h := hin.2.1; unfold insV at h; rw [List.length_map] at h; omega
  exact run_any ⟨#[109, 105, 110, 114, 117, 110]⟩ ⟨#[98, 105, 110, 97, 114, 121]⟩ 1 2 (by decide) [⟨⟨#[111, 110]⟩, 0, 86400, 0⟩, ⟨⟨#[111, 102, 102]⟩, 0, 86400, 0⟩] [⟨⟨#[97]⟩, ⟨#[98, 105, 110, 97, 114, 121]⟩⟩] (fun _ => true) (by decide +kernel) find_minrun (agree_minrun _) pa pc ([t1, t0] : List Int) (by decide) hwf
    (by unfold maxLen; decide +kernel) hval 2 2 hk kindOk_binary (by decide) (by decide)
    dt hd hd2 oa oc rs (insV 2 xs) hl (insV_fit (fun a ha => fits_bit a (hf a ha))) (fun k => [.int .i64 (stMinrun t1 t0 dt xs k).1, .int .i64 (stMinrun t1 t0 dt xs k).2]) (ovMinrun t1 t0 dt xs) rfl (evMinrun t1 t0 dt xs h1 h0 hd hd2) w hm hq hin
/-- count: its state before step k, and its output -/
def stCount (dt : Int) (xs : List (Int × Int)) : Nat → Int × Int
  | 0 => (0, 0)
  | k + 1 => ((xs.getD k (0, 0)).1, cntS (xs.getD k (0, 0)).1 (xs.getD k (0, 0)).2 (stCount dt xs k).1 (stCount dt xs k).2)
def ovCount (dt : Int) (xs : List (Int × Int)) (k : Nat) : Int := 1000 * cntS (xs.getD k (0, 0)).1 (xs.getD k (0, 0)).2 (stCount dt xs k).1 (stCount dt xs k).2
theorem invCount (dt : Int) (xs : List (Int × Int)) (hd : 1 ≤ dt) : ∀ k, 0 ≤ (stCount dt xs k).2 ∧ (stCount dt xs k).2 ≤ 1000000000
  | 0 => by
    show 0 ≤ (0 : Int) ∧ (0 : Int) ≤ 1000000000
    omega
  | k + 1 => by
    have h := invCount dt xs hd k
    show 0 ≤ (cntS (xs.getD k (0, 0)).1 (xs.getD k (0, 0)).2 (stCount dt xs k).1 (stCount dt xs k).2) ∧ (cntS (xs.getD k (0, 0)).1 (xs.getD k (0, 0)).2 (stCount dt xs k).1 (stCount dt xs k).2) ≤ 1000000000
    generalize (stCount dt xs k) = s at *
    unfold cntS; (repeat' split) <;> omega
theorem evCount (dt : Int) (xs : List (Int × Int)) (hd : 1 ≤ dt) (hd2 : dt ≤ 86400) : EvOk ⟨#[99, 111, 117, 110, 116]⟩ 2 ([] : List Int) dt (insP xs) (fun k => [.int .i64 (stCount dt xs k).1, .int .i64 (stCount dt xs k).2]) (ovCount dt xs) := by
  intro w5 rb v1 v2 v3 v4 v5 pa pc k vs hrb hq hx w ib io ic' hb hr hs hc hne
  obtain rfl := insP_at hx
  have i0 := hc 0 _ rfl
  have i1 := hc 1 _ rfl
  have hi := invCount dt xs hd k
  exact eval_count rb w5.heap.size ib io ic' v1 v2 v3 v4 v5 _ (xs.getD k (0, 0)).1 (xs.getD k (0, 0)).2 (stCount dt xs k).1 (stCount dt xs k).2 dt (by omega) ⟨by omega, by omega⟩ w hr hs hne i0 i1
theorem runCount (dt : Int) (xs : List (Int × Int)) (hd : 1 ≤ dt) (hd2 : dt ≤ 86400) (hf : ∀ p ∈ xs, (p.1 = 0 ∨ p.1 = 1) ∧ (p.2 = 0 ∨ p.2 = 1)) (h100 : xs.length ≤ 100) (pa : Option Addr) (pc : Nat) (oa : Option Addr) (oc : Nat) (rs : List SlD) (w : World) (hm : MaxAt w) (hq : InS w pa ([] : List Int).length 1 (flat iL ([] : List Int))) (hin : InsOk w oa rs (insP xs)) :
    Calls Tryd.prog 17 #[.string ⟨#[99, 111, 117, 110, 116]⟩, .slice pa 0 pc, .slice oa rs.length oc, .int .i64 dt] w fun e w' => ∃ v, e = .returned (.tuple #[v, .int .i64 0]) ∧ w'.ownsRow w.heap.size 26 2 v rs.length (flat valL (outsV 1 (ovCount dt xs) rs.length)) ∧ Below w.heap.size w w' := by
  have hwf : ∀ v ∈ ([] : List Int), (Lit.int .i64 v).wf = true := by intro v hv; simp at hv
  have hk : ∀ p ∈ ([⟨⟨#[97]⟩, ⟨#[98, 105, 110, 97, 114, 121]⟩⟩, ⟨⟨#[114, 101, 115, 101, 116]⟩, ⟨#[98, 105, 110, 97, 114, 121]⟩⟩] : List PortD), KindOk p.ty 2 := by intro p hp; simp at hp; rcases hp with rfl | rfl <;> exact kindOk_binary
  have hval : (decide (([] : List Int).length = ([] : List BndD).length) && decide (prmE [] (zipP [] ([] : List Int)) (fun _ => true) = 0)) = true := by rw [prmE_count]; simp [inB]
  have hl : rs.length ≤ 100 := by have h := hin.2.1; unfold insP at h; rw [List.length_map] at h; omega
  exact run_any ⟨#[99, 111, 117, 110, 116]⟩ ⟨#[97, 110, 97, 108, 111, 103]⟩ 1 2 (by decide) [] [⟨⟨#[97]⟩, ⟨#[98, 105, 110, 97, 114, 121]⟩⟩, ⟨⟨#[114, 101, 115, 101, 116]⟩, ⟨#[98, 105, 110, 97, 114, 121]⟩⟩] (fun _ => true) (by decide +kernel) find_count (agree_count _) pa pc ([] : List Int) (by decide) hwf
    (by unfold maxLen; decide +kernel) hval 2 1 hk kindOk_analog (by decide) (by decide)
    dt hd hd2 oa oc rs (insP xs) hl (insP_fit (fun p hp => ⟨fits_bit _ (hf p hp).1, fits_bit _ (hf p hp).2⟩)) (fun k => [.int .i64 (stCount dt xs k).1, .int .i64 (stCount dt xs k).2]) (ovCount dt xs) rfl (evCount dt xs hd hd2) w hm hq hin
/-- latch: its state before step k, and its output -/
def stLatch (dt : Int) (xs : List (Int × Int)) : Nat → Int
  | 0 => 0
  | k + 1 => latchN (xs.getD k (0, 0)).1 (xs.getD k (0, 0)).2 (stLatch dt xs k)
def ovLatch (dt : Int) (xs : List (Int × Int)) (k : Nat) : Int := latchN (xs.getD k (0, 0)).1 (xs.getD k (0, 0)).2 (stLatch dt xs k)
theorem evLatch (dt : Int) (xs : List (Int × Int)) (hd : 1 ≤ dt) (hd2 : dt ≤ 86400) : EvOk ⟨#[108, 97, 116, 99, 104]⟩ 1 ([] : List Int) dt (insP xs) (fun k => [.int .i64 (stLatch dt xs k)]) (ovLatch dt xs) := by
  intro w5 rb v1 v2 v3 v4 v5 pa pc k vs hrb hq hx w ib io ic' hb hr hs hc hne
  obtain rfl := insP_at hx
  have i0 := hc 0 _ rfl
  have i1 := hc 1 _ rfl
  exact eval_latch rb w5.heap.size 1 ib io ic' v1 v2 v3 v4 v5 _ (xs.getD k (0, 0)).1 (xs.getD k (0, 0)).2 (stLatch dt xs k) dt [] (by decide) w hr hs hne i0 i1
theorem runLatch (dt : Int) (xs : List (Int × Int)) (hd : 1 ≤ dt) (hd2 : dt ≤ 86400) (hf : ∀ p ∈ xs, (p.1 = 0 ∨ p.1 = 1) ∧ (p.2 = 0 ∨ p.2 = 1)) (h100 : xs.length ≤ 100) (pa : Option Addr) (pc : Nat) (oa : Option Addr) (oc : Nat) (rs : List SlD) (w : World) (hm : MaxAt w) (hq : InS w pa ([] : List Int).length 1 (flat iL ([] : List Int))) (hin : InsOk w oa rs (insP xs)) :
    Calls Tryd.prog 17 #[.string ⟨#[108, 97, 116, 99, 104]⟩, .slice pa 0 pc, .slice oa rs.length oc, .int .i64 dt] w fun e w' => ∃ v, e = .returned (.tuple #[v, .int .i64 0]) ∧ w'.ownsRow w.heap.size 26 2 v rs.length (flat valL (outsV 2 (ovLatch dt xs) rs.length)) ∧ Below w.heap.size w w' := by
  have hwf : ∀ v ∈ ([] : List Int), (Lit.int .i64 v).wf = true := by intro v hv; simp at hv
  have hk : ∀ p ∈ ([⟨⟨#[115, 101, 116]⟩, ⟨#[98, 105, 110, 97, 114, 121]⟩⟩, ⟨⟨#[114, 101, 115, 101, 116]⟩, ⟨#[98, 105, 110, 97, 114, 121]⟩⟩] : List PortD), KindOk p.ty 2 := by intro p hp; simp at hp; rcases hp with rfl | rfl <;> exact kindOk_binary
  have hval : (decide (([] : List Int).length = ([] : List BndD).length) && decide (prmE [] (zipP [] ([] : List Int)) (fun _ => true) = 0)) = true := by rw [prmE_latch]; simp [inB]
  have hl : rs.length ≤ 100 := by have h := hin.2.1; unfold insP at h; rw [List.length_map] at h; omega
  exact run_any ⟨#[108, 97, 116, 99, 104]⟩ ⟨#[98, 105, 110, 97, 114, 121]⟩ 1 1 (by decide) [] [⟨⟨#[115, 101, 116]⟩, ⟨#[98, 105, 110, 97, 114, 121]⟩⟩, ⟨⟨#[114, 101, 115, 101, 116]⟩, ⟨#[98, 105, 110, 97, 114, 121]⟩⟩] (fun _ => true) (by decide +kernel) find_latch (agree_latch _) pa pc ([] : List Int) (by decide) hwf
    (by unfold maxLen; decide +kernel) hval 2 2 hk kindOk_binary (by decide) (by decide)
    dt hd hd2 oa oc rs (insP xs) hl (insP_fit (fun p hp => ⟨fits_bit _ (hf p hp).1, fits_bit _ (hf p hp).2⟩)) (fun k => [.int .i64 (stLatch dt xs k)]) (ovLatch dt xs) rfl (evLatch dt xs hd hd2) w hm hq hin
/-- hyst: its state before step k, and its output -/
def stHyst (hi : Int) (lo : Int) (dt : Int) (xs : List Int) : Nat → Int
  | 0 => 0
  | k + 1 => hystN lo hi (xs.getD k 0) (stHyst hi lo dt xs k)
def ovHyst (hi : Int) (lo : Int) (dt : Int) (xs : List Int) (k : Nat) : Int := hystN lo hi (xs.getD k 0) (stHyst hi lo dt xs k)
theorem evHyst (hi : Int) (lo : Int) (dt : Int) (xs : List Int) (h1 : -1000000000000 ≤ hi ∧ hi ≤ 1000000000000) (h0 : -1000000000000 ≤ lo ∧ lo ≤ 1000000000000) (hlt : lo < hi) (hd : 1 ≤ dt) (hd2 : dt ≤ 86400) : EvOk ⟨#[104, 121, 115, 116]⟩ 1 ([hi, lo] : List Int) dt (insV 1 xs) (fun k => [.int .i64 (stHyst hi lo dt xs k)]) (ovHyst hi lo dt xs) := by
  intro w5 rb v1 v2 v3 v4 v5 pa pc k vs hrb hq hx w ib io ic' hb hr hs hc hne
  obtain rfl := insV_at hx
  have i0 := hc 0 _ rfl
  obtain ⟨pb, po, rfl, hpl, hpc⟩ := (hq.keep hb).at iL_len (Nat.succ_pos _)
  have hpb : pb ≠ w5.heap.size := by
    have h := ins_low hq
    rcases h with h | h
    · simp at h
    · have := h pb po rfl; omega
  have p0 := hpc 0 _ rfl 0 _ rfl
  have p1 := hpc 1 _ rfl 0 _ rfl
  simp only [Nat.zero_mul, Nat.one_mul, Nat.add_zero] at p0 p1
  exact eval_hyst rb w5.heap.size 1 pb po pc ib io ic' v1 v2 v3 v4 v5 lo hi (xs.getD k 0) (stHyst hi lo dt xs k) dt [] (by decide) w hr p0 p1 hs i0
theorem runHyst (hi : Int) (lo : Int) (dt : Int) (xs : List Int) (h1 : -1000000000000 ≤ hi ∧ hi ≤ 1000000000000) (h0 : -1000000000000 ≤ lo ∧ lo ≤ 1000000000000) (hlt : lo < hi) (hd : 1 ≤ dt) (hd2 : dt ≤ 86400)  (h100 : xs.length ≤ 100) (pa : Option Addr) (pc : Nat) (oa : Option Addr) (oc : Nat) (rs : List SlD) (w : World) (hm : MaxAt w) (hq : InS w pa ([hi, lo] : List Int).length 1 (flat iL ([hi, lo] : List Int))) (hin : InsOk w oa rs (insV 1 xs)) :
    Calls Tryd.prog 17 #[.string ⟨#[104, 121, 115, 116]⟩, .slice pa 2 pc, .slice oa rs.length oc, .int .i64 dt] w fun e w' => ∃ v, e = .returned (.tuple #[v, .int .i64 0]) ∧ w'.ownsRow w.heap.size 26 2 v rs.length (flat valL (outsV 2 (ovHyst hi lo dt xs) rs.length)) ∧ Below w.heap.size w w' := by
  have hwf : ∀ v ∈ ([hi, lo] : List Int), (Lit.int .i64 v).wf = true := by intro v hv; simp at hv; rcases hv with rfl | rfl <;> exact wf_small _ (by omega) (by omega)
  have hk : ∀ p ∈ ([⟨⟨#[97]⟩, ⟨#[85]⟩⟩] : List PortD), KindOk p.ty 1 := by intro p hp; simp at hp; subst hp; exact kindOk_u
  have hval : (decide (([hi, lo] : List Int).length = ([⟨⟨#[111, 110]⟩, (-1000000000000), 1000000000000, 1000⟩, ⟨⟨#[111, 102, 102]⟩, (-1000000000000), 1000000000000, 0⟩] : List BndD).length) && decide (prmE [⟨⟨#[111, 110]⟩, (-1000000000000), 1000000000000, 1000⟩, ⟨⟨#[111, 102, 102]⟩, (-1000000000000), 1000000000000, 0⟩] (zipP [⟨⟨#[111, 110]⟩, (-1000000000000), 1000000000000, 1000⟩, ⟨⟨#[111, 102, 102]⟩, (-1000000000000), 1000000000000, 0⟩] ([hi, lo] : List Int)) agLt = 0)) = true := by rw [prmE_hyst]; simp [inB, agLt]; omega
  have hl : rs.length ≤ 100 := by have h := hin.2.1; unfold insV at h; rw [List.length_map] at h; omega
  exact run_any ⟨#[104, 121, 115, 116]⟩ ⟨#[98, 105, 110, 97, 114, 121]⟩ 1 1 (by decide) [⟨⟨#[111, 110]⟩, (-1000000000000), 1000000000000, 1000⟩, ⟨⟨#[111, 102, 102]⟩, (-1000000000000), 1000000000000, 0⟩] [⟨⟨#[97]⟩, ⟨#[85]⟩⟩] agLt (by decide +kernel) find_hyst agree_hyst pa pc ([hi, lo] : List Int) (by decide) hwf
    (by unfold maxLen; decide +kernel) hval 1 2 hk kindOk_binary (by decide) (by decide)
    dt hd hd2 oa oc rs (insV 1 xs) hl (insV_fit (fun a _ => fits_num a)) (fun k => [.int .i64 (stHyst hi lo dt xs k)]) (ovHyst hi lo dt xs) rfl (evHyst hi lo dt xs h1 h0 hlt hd hd2) w hm hq hin
end Go.Proofs.YtmhfkdnblemfdaaDoor
