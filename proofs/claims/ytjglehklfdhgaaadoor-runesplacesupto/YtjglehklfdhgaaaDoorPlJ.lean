/- HELPERS: the walk of RunesPlaces, its eight cases joined. -/
import Derived.Test.YtjglehklfdhgaaaDoorPlNTT
import Derived.Test.YtjglehklfdhgaaaDoorPlNTF
import Derived.Test.YtjglehklfdhgaaaDoorPlNFT
import Derived.Test.YtjglehklfdhgaaaDoorPlNFF
import Derived.Test.YtjglehklfdhgaaaDoorPlPTT
import Derived.Test.YtjglehklfdhgaaaDoorPlPTF
import Derived.Test.YtjglehklfdhgaaaDoorPlPFT
import Derived.Test.YtjglehklfdhgaaaDoorPlPFF
namespace Go.Proofs.YtjglehklfdhgaaaDoor
open Go.RowKit Go.Mx
theorem places_any (l : List Int) (b off n cap : Nat) (at' : Int) (w : World) (hn : n = l.length) (hn1 : 1 ≤ n) (hn2 : n ≤ 1048576) (hc1 : n ≤ cap) (hc2 : cap ≤ 1048576) (hB : Bytes w b off l) (hbN : b < w.heap.size) (hL : ByteL l) (hT : Tabs w) (h2 : 2 ≤ w.heap.size)
    (ha1 : -9223372036854775808 ≤ at') (ha2 : at' ≤ 9223372036854775807) :
    Calls Tryd.prog 8 #[.slice (some ⟨b, off, none⟩) n cap, .int .i64 at'] w fun e w' => e = .returned (.bool true) ∧ Below w.heap.size w w' := by
  obtain ⟨k, hk⟩ : ∃ k : Nat, k ≤ (cut l).length ∧ (if at' < 0 then -(at' + 1) else at') % (((cut l).length : Int) + 1) = (k : Int) := by
    have h1 := Int.emod_nonneg (if at' < 0 then -(at' + 1) else at') (show (((cut l).length : Int) + 1) ≠ 0 by omega)
    have h2 := Int.emod_lt_of_pos (if at' < 0 then -(at' + 1) else at') (show (0 : Int) < ((cut l).length : Int) + 1 by omega)
    exact ⟨((if at' < 0 then -(at' + 1) else at') % (((cut l).length : Int) + 1)).toNat, by omega, by omega⟩
  by_cases hat : at' < 0
  · by_cases hpc : plK k l < cap
    · by_cases hkn : k < n
      · exact places_NTT l b off n cap at' w hn hn1 hn2 hc1 hc2 hB hbN hL hT h2 ha1 ha2 hat k hk hpc hkn
      · exact places_NTF l b off n cap at' w hn hn1 hn2 hc1 hc2 hB hbN hL hT h2 ha1 ha2 hat k hk hpc hkn
    · by_cases hkn : k < n
      · exact places_NFT l b off n cap at' w hn hn1 hn2 hc1 hc2 hB hbN hL hT h2 ha1 ha2 hat k hk hpc hkn
      · exact places_NFF l b off n cap at' w hn hn1 hn2 hc1 hc2 hB hbN hL hT h2 ha1 ha2 hat k hk hpc hkn
  · by_cases hpc : plK k l < cap
    · by_cases hkn : k < n
      · exact places_PTT l b off n cap at' w hn hn1 hn2 hc1 hc2 hB hbN hL hT h2 ha1 ha2 hat k hk hpc hkn
      · exact places_PTF l b off n cap at' w hn hn1 hn2 hc1 hc2 hB hbN hL hT h2 ha1 ha2 hat k hk hpc hkn
    · by_cases hkn : k < n
      · exact places_PFT l b off n cap at' w hn hn1 hn2 hc1 hc2 hB hbN hL hT h2 ha1 ha2 hat k hk hpc hkn
      · exact places_PFF l b off n cap at' w hn hn1 hn2 hc1 hc2 hB hbN hL hT h2 ha1 ha2 hat k hk hpc hkn
end Go.Proofs.YtjglehklfdhgaaaDoor
