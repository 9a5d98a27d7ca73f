package impl

const MaxHistory = 10

type Deed struct {
	Txn    int
	Begin  int
	End    int
	Yes    bool
	Look   bool
	Time   int
	Got    []Got
	Writes []Write
}

func GoodHistory(h []Deed) bool                             { return false }
func HistoryOf(w World) ([]Deed, bool)                      { return nil, false }
func DeedAhead(a Deed, b Deed) (bool, bool)                 { return false, false }
func PlayOrder(h []Deed, order []int) ([]Write, bool, bool) { return nil, false, false }
func KeepsOrder(h []Deed, order []int) (bool, bool)         { return false, false }
func FindOrder(h []Deed) ([]int, bool, bool)                { return nil, false, false }
func CountOrders(h []Deed) (int, bool)                      { return 0, false }
func HistoryText(h []Deed) (string, bool)                   { return "", false }
