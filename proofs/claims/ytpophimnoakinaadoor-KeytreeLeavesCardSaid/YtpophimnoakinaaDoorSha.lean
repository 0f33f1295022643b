/- SHA-256 as plain functions on lists of integers and bytes, in the words in which walks leave them; padding; the sum. Nothing of the program is imported. -/
import Derived.Test.YtpophimnoakinaaDoorPlain
import Derived.Laws.BitsAllLaws
namespace Go.Proofs.YtpophimnoakinaaDoor
open Go
set_option linter.unusedVariables false
set_option linter.unusedSimpArgs false

/-- Rotated to the right by n bits. -/
def roI (n : Nat) (x : Int) : Int := bits .or .u32 (x / ((2 ^ n : Nat) : Int)) (x * ((2 ^ (32 - n) : Nat) : Int) % 4294967296)
def sg0 (x : Int) : Int := bits .xor .u32 (bits .xor .u32 (roI 7 x) (roI 18 x)) (x / 8)
def sg1 (y : Int) : Int := bits .xor .u32 (bits .xor .u32 (roI 17 y) (roI 19 y)) (y / 1024)
def big1 (e : Int) : Int := bits .xor .u32 (bits .xor .u32 (roI 6 e) (roI 11 e)) (roI 25 e)
def big0 (a : Int) : Int := bits .xor .u32 (bits .xor .u32 (roI 2 a) (roI 13 a)) (roI 22 a)
def notI (e : Int) : Int := bits .xor .u32 4294967295 e
def chI (e f g : Int) : Int := bits .xor .u32 (bits .and .u32 e f) (bits .and .u32 (notI e) g)
def majI (a b c : Int) : Int := bits .xor .u32 (bits .xor .u32 (bits .and .u32 a b) (bits .and .u32 a c)) (bits .and .u32 b c)
def wordI (a b c d : Int) : Int := bits .or .u32 (bits .or .u32 (bits .or .u32 (a * 16777216) (b * 65536)) (c * 256)) d
/-- Word t of the bytes l. -/
def wordAt (l : List UInt8) (t : Nat) : Int := wordI (l.getD (4 * t) 0).toNat (l.getD (4 * t + 1) 0).toNat (l.getD (4 * t + 2) 0).toNat (l.getD (4 * t + 3) 0).toNat
/-- The array behind t of the 16 first words. -/
def stF (l : List UInt8) : Nat → List Int
  | 0 => List.replicate 64 0
  | t + 1 => (stF l t).set t (wordAt l t)
def nextI (xs : List Int) (t : Nat) : Int := (sg1 (xs.getD (t - 2) 0) + xs.getD (t - 7) 0 + sg0 (xs.getD (t - 15) 0) + xs.getD (t - 16) 0) % 4294967296
/-- .. and behind n of the words that follow. -/
def exF (xs : List Int) : Nat → List Int
  | 0 => xs
  | n + 1 => (exF xs n).set (16 + n) (nextI (exF xs n) (16 + n))
def wOf (l : List UInt8) : List Int := exF (stF l 16) 48

def KL : List Int := [1116352408, 1899447441, 3049323471, 3921009573, 961987163, 1508970993, 2453635748, 2870763221, 3624381080, 310598401, 607225278, 1426881987, 1925078388, 2162078206, 2614888103, 3248222580, 3835390401, 4022224774, 264347078, 604807628, 770255983, 1249150122, 1555081692, 1996064986, 2554220882, 2821834349, 2952996808, 3210313671, 3336571891, 3584528711, 113926993, 338241895, 666307205, 773529912, 1294757372, 1396182291, 1695183700, 1986661051, 2177026350, 2456956037, 2730485921, 2820302411, 3259730800, 3345764771, 3516065817, 3600352804, 4094571909, 275423344, 430227734, 506948616, 659060556, 883997877, 958139571, 1322822218, 1537002063, 1747873779, 1955562222, 2024104815, 2227730452, 2361852424, 2428436474, 2756734187, 3204031479, 3329325298]
def HL : List Int := [1779033703, 3144134277, 1013904242, 2773480762, 1359893119, 2600822924, 528734635, 1541459225]

def rnd (k w : Int) : List Int → List Int
  | [a, b, c, d, e, f, g, h] =>
    [((h + big1 e + chI e f g + k + w) % 4294967296 + (big0 a + majI a b c) % 4294967296) % 4294967296, a, b, c, (d + (h + big1 e + chI e f g + k + w) % 4294967296) % 4294967296, e, f, g]
  | l => l
/-- The eight numbers behind t rounds. -/
def rF (hs W : List Int) : Nat → List Int
  | 0 => hs
  | t + 1 => rnd (KL.getD t 0) (W.getD t 0) (rF hs W t)
/-- .. with i of the sums added. -/
def addF (hs vs : List Int) (i : Nat) : List Int := (List.range 8).map fun j => if j < i then (hs.getD j 0 + vs.getD j 0) % 4294967296 else hs.getD j 0
def cmpI (hs W : List Int) : List Int := addF hs (rF hs W 64) 8
def blk (l : List UInt8) (n : Nat) : List UInt8 := (l.drop (64 * n)).take 64
/-- The sums behind n blocks. -/
def runB (hs : List Int) (l : List UInt8) : Nat → List Int
  | 0 => hs
  | n + 1 => cmpI (runB hs l n) (wOf (blk l n))

def byteI (x : Int) : UInt8 := UInt8.ofNat (x % 256).toNat
def outL (hs : List Int) : List UInt8 := hs.flatMap fun x => [byteI (x / 16777216), byteI (x / 65536), byteI (x / 256), byteI x]
def be8 (n : Nat) : List UInt8 := (List.range 8).map fun i => UInt8.ofNat (n / 2 ^ (8 * (7 - i)))
def be4 (n : Nat) : List UInt8 := (List.range 4).map fun i => UInt8.ofNat (n / 2 ^ (8 * (3 - i)))
/-- What is padded, of which l is the end and n the length. -/
def padL (l : List UInt8) (n : Nat) : List UInt8 := l ++ ([128] ++ (List.replicate ((119 - n % 64) % 64) 0 ++ be8 (8 * n)))
def sumL (l : List UInt8) : List UInt8 := outL (runB HL (padL l l.length) ((padL l l.length).length / 64))

theorem stF_length (l : List UInt8) : ∀ t, (stF l t).length = 64
  | 0 => by simp [stF]
  | t + 1 => by simp [stF, stF_length l t]
theorem exF_length (xs : List Int) (h : xs.length = 64) : ∀ n, (exF xs n).length = 64
  | 0 => h
  | n + 1 => by simp [exF, exF_length xs h n]
theorem wOf_length (l : List UInt8) : (wOf l).length = 64 := exF_length _ (stF_length _ _) _
theorem eight {l : List Int} (h : l.length = 8) : ∃ a b c d e f g i : Int, l = [a, b, c, d, e, f, g, i] := by
  match l, h with
  | [a, b, c, d, e, f, g, i], _ => exact ⟨a, b, c, d, e, f, g, i, rfl⟩
theorem rnd_length (k w : Int) {l : List Int} (h : l.length = 8) : (rnd k w l).length = 8 := by
  obtain ⟨a, b, c, d, e, f, g, i, rfl⟩ := eight h
  rfl
theorem rF_length (hs W : List Int) (h : hs.length = 8) : ∀ t, (rF hs W t).length = 8
  | 0 => h
  | t + 1 => rnd_length _ _ (rF_length hs W h t)
theorem addF_length (hs vs : List Int) (i : Nat) : (addF hs vs i).length = 8 := by simp [addF]
theorem runB_length (hs : List Int) (l : List UInt8) (h : hs.length = 8) : ∀ n, (runB hs l n).length = 8
  | 0 => h
  | n + 1 => addF_length _ _ _
theorem addF_zero (hs vs : List Int) (h : hs.length = 8) : addF hs vs 0 = hs := by
  obtain ⟨a, b, c, d, e, f, g, i, rfl⟩ := eight h
  rfl
theorem addF_get (hs vs : List Int) (i j : Nat) (hj : j < 8) : (addF hs vs i).getD j 0 = if j < i then (hs.getD j 0 + vs.getD j 0) % 4294967296 else hs.getD j 0 := by
  simp [addF, List.getD, hj]
theorem addF_succ (hs vs : List Int) (i : Nat) (hi : i < 8) : addF hs vs (i + 1) = (addF hs vs i).set i ((hs.getD i 0 + vs.getD i 0) % 4294967296) := by
  apply List.ext_getElem
  · simp [addF]
  · intro j h1 h2
    simp only [addF, List.getElem_map, List.getElem_range, List.getElem_set]
    by_cases e : i = j
    · subst e; simp
    · have : (j < i + 1) = (j < i) := by apply propext; omega
      simp [e, this]
theorem addF_comm (hs vs : List Int) : addF hs vs 8 = addF vs hs 8 := by
  apply List.ext_getElem
  · simp [addF]
  · intro j h1 h2
    have hj : j < 8 := by simpa [addF] using h1
    simp [addF, hj, Int.add_comm]

theorem blk_append_left (a b : List UInt8) (m n : Nat) (ha : a.length = 64 * m) (h : n < m) : blk (a ++ b) n = blk a n := by
  unfold blk
  rw [List.drop_append, List.take_append_of_le_length (by rw [List.length_drop]; omega)]
theorem blk_append_right (a b : List UInt8) (m n : Nat) (ha : a.length = 64 * m) : blk (a ++ b) (m + n) = blk b n := by
  unfold blk
  rw [List.drop_append, List.drop_of_length_le (by omega), ha, List.nil_append]
  congr 2
  omega
theorem runB_left (hs : List Int) (a b : List UInt8) (m : Nat) (ha : a.length = 64 * m) : ∀ n, n ≤ m → runB hs (a ++ b) n = runB hs a n
  | 0, _ => rfl
  | n + 1, h => by
    show cmpI (runB hs (a ++ b) n) (wOf (blk (a ++ b) n)) = cmpI (runB hs a n) (wOf (blk a n))
    rw [runB_left hs a b m ha n (by omega), blk_append_left a b m n ha (by omega)]
theorem runB_append (hs : List Int) (a b : List UInt8) (m : Nat) (ha : a.length = 64 * m) : ∀ n, runB hs (a ++ b) (m + n) = runB (runB hs a m) b n
  | 0 => runB_left hs a b m ha m (Nat.le_refl _)
  | n + 1 => by
    show cmpI (runB hs (a ++ b) (m + n)) (wOf (blk (a ++ b) (m + n))) = cmpI (runB (runB hs a m) b n) (wOf (blk b n))
    rw [runB_append hs a b m ha n, blk_append_right a b m n ha]
theorem be8_length (n : Nat) : (be8 n).length = 8 := by simp [be8]
theorem be4_length (n : Nat) : (be4 n).length = 4 := by simp [be4]
theorem padL_length (l : List UInt8) (n : Nat) : (padL l n).length = l.length + 1 + (119 - n % 64) % 64 + 8 := by
  simp [padL, be8_length]; omega
/-- The sum, with the whole blocks first and what follows them padded by itself. -/
theorem sumL_split (l : List UInt8) (m : Nat) (hm : m = l.length / 64) :
    sumL l = outL (runB (runB HL (l.take (64 * m)) m) (padL (l.drop (64 * m)) l.length) ((padL (l.drop (64 * m)) l.length).length / 64)) := by
  have h1 : (l.take (64 * m)).length = 64 * m := by simp; omega
  have e : padL l l.length = l.take (64 * m) ++ padL (l.drop (64 * m)) l.length := by
    unfold padL
    conv => rhs; rw [← List.append_assoc (List.take (64 * m) l), List.take_append_drop]
  have e2 : (padL l l.length).length / 64 = m + (padL (l.drop (64 * m)) l.length).length / 64 := by
    rw [e, List.length_append, h1]; omega
  unfold sumL
  rw [e2, e, runB_append _ _ _ _ h1]
theorem padL_whole (l : List UInt8) : (padL l l.length).length % 64 = 0 := by
  rw [padL_length]; omega
theorem outL_length {hs : List Int} (h : hs.length = 8) : (outL hs).length = 32 := by
  obtain ⟨a, b, c, d, e, f, g, i, rfl⟩ := eight h
  rfl
theorem sumL_length (l : List UInt8) : (sumL l).length = 32 := outL_length (runB_length _ _ rfl _)

theorem byteI_val (x : Int) : ((byteI x).toNat : Int) = x % 256 := by
  unfold byteI
  rw [UInt8.toNat_ofNat']
  omega
theorem get_of (q : ByteArray) (i : Nat) (h : i < q.size) : q.data.toList.getD i 0 = q[i] := by
  have e : q.data.toList[i]? = some q[i] := by
    rw [Array.getElem?_toList]
    exact Array.getElem?_eq_getElem h
  simp [List.getD, e]

theorem sum_abc : sumL [97, 98, 99] = [186, 120, 22, 191, 143, 1, 207, 234, 65, 65, 64, 222, 93, 174, 34, 35, 176, 3, 97, 163, 150, 23, 122, 156, 180, 16, 255, 97, 242, 0, 21, 173] := by decide +kernel
theorem sum_empty : sumL [] = [227, 176, 196, 66, 152, 252, 28, 20, 154, 251, 244, 200, 153, 111, 185, 36, 39, 174, 65, 228, 100, 155, 147, 76, 164, 149, 153, 27, 120, 82, 184, 85] := by decide +kernel

end Go.Proofs.YtpophimnoakinaaDoor
