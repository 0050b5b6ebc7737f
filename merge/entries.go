package merge

import (
	"cmp"
	"slices"

	"domicile/api"
)

const maxNums = 32 // numbers of an entry

// origin says which hub made an entry, and as which of its entries.
type origin struct{ hub, seq int }

func originOf(e api.Entry) origin { return origin{e.Hub, e.Seq} }

func entriesOf(l []api.Entry) map[origin]api.Entry {
	entries := map[origin]api.Entry{}
	for _, e := range l {
		entries[originOf(e)] = e
	}
	return entries
}

func compareEntries(x, y *api.Entry) int {
	return cmp.Or(cmp.Compare(x.Time, y.Time), cmp.Compare(x.Hub, y.Hub), cmp.Compare(x.Seq, y.Seq))
}

func areEqual(x, y api.Entry) bool {
	return compareEntries(&x, &y) == 0 && x.Kind == y.Kind && slices.Equal(x.Nums, y.Nums) && x.Text == y.Text
}

func copied(e api.Entry) api.Entry {
	e.Nums = slices.Clone(e.Nums)
	return e
}

func isEntry(e api.Entry) bool {
	return within(e.Hub, 0, api.MaxHubs-1) && within(e.Seq, 0, api.MaxTime) && within(e.Time, 0, api.MaxTime) &&
		within(e.Kind, api.EntLoad, api.EntTake) && len(e.Nums) <= maxNums && len(e.Text) <= api.MaxSource
}

func within(n, least, most int) bool { return least <= n && n <= most }
