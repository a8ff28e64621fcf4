package words

import "sync"

// First is the first row of the table that stands for good, nil ahead of its first use. Looking does not make the table.
func First() *Word {
	if len(table) == 0 {
		return nil
	}
	return &table[0]
}

// Table is the table as it is; looking does not make it.
func Table() []Word { return table }

// Forget brings back how it was at the start, for a test that is run more than once.
func Forget() { once, table = sync.Once{}, nil }
