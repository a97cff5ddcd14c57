"""Points 4, 10 and 11: charts and their posts."""

import unittest

from movingup.charts import check_chart, common_post, path_to, posts_below
from movingup.errors import InvalidChart, InvalidPost
from oracle import BAD_CHARTS, CHART, NOT_PEOPLE, NOT_WHOLE, all_charts, climb, random_chart

LINE = (None,) + tuple(range(999))
STAR = (None,) + (0,) * 999


class CheckChart(unittest.TestCase):
    def test_charts(self):
        for count in (1, 2, 3, 4, 5):
            for chart in all_charts(count):
                self.assertIsNone(check_chart(chart))

    def test_wrong_shape(self):
        for value in (None, True, 0, 10 ** 899, "", "None", [], [None], [None, 0], {}, {None: 0}, ()):
            self.assertEqual(check_chart(value), ("shape",))

    def test_wrong_head(self):
        for head in (0, False, True, "", (), [], {}, (None,)):
            self.assertEqual(check_chart((head,)), ("shape",))
            self.assertEqual(check_chart((head, 0)), ("shape",))

    def test_first_wrong_post(self):
        for value in (*NOT_PEOPLE, 2, 3, 10 ** 899):
            self.assertEqual(check_chart((None, 0, value)), ("post", 2))
            self.assertEqual(check_chart((None, 0, value, value, None)), ("post", 2))
        self.assertEqual(check_chart((None, None, 0)), ("post", 1))
        self.assertEqual(check_chart((None, 1)), ("post", 1))

    def test_greatest_post_above(self):
        self.assertIsNone(check_chart((None, 0, 1, 2)))
        self.assertEqual(check_chart((None, 0, 1, 3)), ("post", 3))

    def test_shape_comes_before_posts(self):
        self.assertEqual(check_chart((0, 7)), ("shape",))

    def test_large_charts(self):
        for chart in (LINE, STAR, random_chart(1, 1000)):
            self.assertIsNone(check_chart(chart))
            self.assertEqual(check_chart(chart[:-1] + (999,)), ("post", 999))
        self.assertEqual(check_chart((None,) * 100000), ("post", 1))


class Posts(unittest.TestCase):
    def test_document(self):
        self.assertEqual([path_to(CHART, 4), posts_below(CHART, 1), common_post(CHART, 4, 5)], [[0, 1, 4], [1, 3, 4], 0])

    def test_one_post(self):
        self.assertEqual([path_to((None,), 0), posts_below((None,), 0), common_post((None,), 0, 0)], [[0], [0], 0])

    def test_all_posts_of_small_charts(self):
        for count in (1, 2, 3, 4, 5):
            for chart in all_charts(count):
                for post in range(count):
                    below = [k for k in range(count) if post in climb(chart, k)]
                    self.assertEqual(path_to(chart, post), climb(chart, post)[::-1])
                    self.assertEqual(posts_below(chart, post), below)

    def test_common_posts_of_small_charts(self):
        for chart in all_charts(5):
            for a in range(5):
                for b in range(5):
                    expected = [k for k in climb(chart, a) if k in climb(chart, b)][0]
                    self.assertEqual(common_post(chart, a, b), expected)

    def test_a_post_on_the_path_to_the_other(self):
        self.assertEqual([common_post(CHART, 1, 4), common_post(CHART, 4, 1), common_post(CHART, 3, 3)], [1, 1, 3])

    def test_large_charts(self):
        self.assertEqual(path_to(LINE, 999), list(range(1000)))
        self.assertEqual(posts_below(LINE, 0), list(range(1000)))
        self.assertEqual(posts_below(STAR, 999), [999])
        self.assertEqual([common_post(LINE, 998, 999), common_post(STAR, 998, 999)], [998, 0])

    def test_results_are_new(self):
        for ask in (path_to, posts_below):
            ask(CHART, 1).append(7)
            self.assertNotIn(7, ask(CHART, 1))

    def test_by_name(self):
        self.assertEqual(check_chart(value=CHART), None)
        self.assertEqual(path_to(chart=CHART, post=4), [0, 1, 4])
        self.assertEqual(posts_below(chart=CHART, post=2), [2, 5])
        self.assertEqual(common_post(chart=CHART, a=4, b=3), 1)


class Errors(unittest.TestCase):
    def test_wrong_chart(self):
        for chart in BAD_CHARTS:
            for call in ((path_to, 0), (posts_below, 0), (common_post, 0, 0), (path_to, "x"), (common_post, None, -1)):
                with self.assertRaises(InvalidChart) as caught:
                    call[0](chart, *call[1:])
                self.assertEqual(caught.exception.reason, check_chart(chart))

    def test_wrong_post(self):
        for post in (*NOT_WHOLE, -1, 6, 10 ** 899):
            for call in ((path_to, post), (posts_below, post), (common_post, post, 0), (common_post, 0, post)):
                with self.assertRaises(InvalidPost) as caught:
                    call[0](CHART, *call[1:])
                self.assertIs(caught.exception.post, post)

    def test_two_wrong_posts(self):
        with self.assertRaises(InvalidPost) as caught:
            common_post(CHART, 6, -1)
        self.assertEqual(caught.exception.post, 6)


if __name__ == "__main__":
    unittest.main()
