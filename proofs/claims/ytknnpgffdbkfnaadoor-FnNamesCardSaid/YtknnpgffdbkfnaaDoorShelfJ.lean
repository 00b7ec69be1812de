import Derived.Test.YtknnpgffdbkfnaaDoorShelf
namespace Go.Proofs
end Go.Proofs
