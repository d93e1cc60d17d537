/- Link, Check and Clash do what the laws' walks want. -/
import Derived.Test.YthhcopeejhhpgaaDoorCClash
import Derived.Test.YthhcopeejhhpgaaDoorCCheck
import Derived.Test.YthhcopeejhhpgaaDoorCLink
namespace Go.Proofs.YthhcopeejhhpgaaDoor
open Chn

theorem check_ok : CheckC := fun a f A l n cap w hT ha hf hn _ hl hls hA => check_any a ha f hf A l n cap hn hl hls w hT hA
theorem clash_ok : ClashC := fun A A' l m n n' c c' w hT hn hn' _ _ hl hm hls hms hA hA' => pclash_any A A' l m n n' c c' w hT hn hn' (by omega) (by omega) hls hms hA hA'
theorem link_ok : LinkP := link_any

end Go.Proofs.YthhcopeejhhpgaaDoor
