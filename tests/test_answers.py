import unittest

from playedall.answers import Answer, Rivals, Round, Sum, Weak


class Answers(unittest.TestCase):
    def test_each_stands_straight_under_answer(self):
        self.assertEqual(Answer.__bases__, (object,))
        for answer in (Round, Sum, Weak, Rivals):
            with self.subTest(answer=answer):
                self.assertEqual(answer.__bases__, (Answer,))

    def test_values(self):
        self.assertEqual(Round([(0, 1)]).games, [(0, 1)])
        self.assertEqual(Round(games=[]).games, [])
        self.assertEqual(Weak([0, 2]).some, [0, 2])
        self.assertEqual(Weak(some=[]).some, [])
        self.assertEqual(Rivals([1]).some, [1])
        self.assertEqual(Rivals(some=[]).some, [])
        self.assertIsInstance(Sum(), Answer)

    def test_lists_are_copied_as_they_are_handed(self):
        for make, name, handed in ((Round, "games", [(1, 0), (0, 2)]), (Weak, "some", [2, 0, 1]),
                                   (Rivals, "some", [3, 1])):
            with self.subTest(make=make):
                before = list(handed)
                answer = make(handed)
                self.assertIsInstance(getattr(answer, name), list)
                handed.append("more")
                self.assertEqual(getattr(answer, name), before)
                handed.clear()
                self.assertEqual(getattr(answer, name), before)

    def test_a_changed_answer_leaves_what_was_handed(self):
        handed = [0, 1]
        Weak(handed).some.clear()
        Rivals(handed).some.append(2)
        Round(handed).games.pop()
        self.assertEqual(handed, [0, 1])

    def test_two_answers_share_nothing(self):
        handed = [0, 1]
        one, other = Weak(handed), Weak(handed)
        one.some.clear()
        self.assertEqual(other.some, [0, 1])
